/- Draws for the laws of seats: a train, and how many seats it has. -/
import Derived.Test.YtiollklighmojadCurSign
import Derived.Test.YtiollklighmojadCurBytes
import Derived.Test.YtiollklighmojadTnFind
import Derived.Deep.RegionHeld3
namespace Go.Proofs.Ytiollklighmojad
namespace Tn
open Go.ChangeShapes Go.WideShapes Go.ChangeAt Go.RowKit
open Pk (new_below join_below cell_at heap_new frozen_at lt_of kept heap_old info_of own_form own_below Room)
open Cur (Is Moved Bytes Kb new_any once_any below_any pickInt_any rowOf_new)
set_option linter.unusedSimpArgs false
set_option linter.unusedVariables false

theorem own_kb {c base e size : Nat} {w w1 : World} {v : Value} {n : Nat} {xs : List Value} (h : w.ownsRow base e size v n xs) (K : Kb c w w1) (hc : v.ownBlock ≠ some c) : w1.ownsRow base e size v n xs := by
  obtain ⟨h1, h2⟩ := h
  refine ⟨h1, ?_⟩
  rcases h2 with h2 | ⟨g, cap, cur, hv, hg, hh, hr⟩
  · exact Or.inl h2
  · exact Or.inr ⟨g, cap, cur, hv, hg, by rw [K.block g (lt_of hh) (by intro e; apply hc; rw [hv, e]; rfl)]; exact hh, hr⟩

theorem new3 (w : World) (t : TypeId) (a b c : Value) : ∀ j u, [a, b, c][j]? = some u → (w.alloc (.cells #[a, b, c] t)).cell? (Addr.add ⟨w.heap.size, 0, none⟩ j) = some u := by
  intro j u h
  rw [show Addr.add ⟨w.heap.size, 0, none⟩ j = ⟨w.heap.size, j, none⟩ from by simp [Addr.add]; exact Eq.symm, cell_at (heap_new w _) j, ← h]
  simp

theorem scells_snoc (l : List St) (p : St) : scells l ++ [.int .i64 p.st, .int .i64 p.ar, .int .i64 p.dp] = scells (l ++ [p]) := by simp [scells]

theorem named_wp {P : Program} {c : Code} {Q : Exit → Act → World → Prop} {a : Act} {w : World} (h : ∀ W, W = w → Code.wp P c Q a W) : Code.wp P c Q a w := h w rfl

set_option maxRecDepth 100000 in
set_option maxHeartbeats 4000000 in
theorem train_bd {W0 : World} {a : Option Addr} {n cap c : Nat} {w : World} (C : Is W0 a n cap c w) (id : Int) :
    Calls Try.prog 114 #[.pointer (some ⟨c, 0, none⟩), .int .i64 id] w fun e w' => (∃ (h : Hd) (l : List St) (va : Option Addr) (vc : Nat), e = .returned (trV h va l.length vc) ∧ h.id = id ∧ w'.ownsRow w.heap.size 37 3 (.slice va l.length vc) l.length (scells l) ∧ 2 ≤ l.length ∧ l.length ≤ 5 ∧ ((h.co = 0 ∧ h.se = 0) ∨ (1 ≤ h.co ∧ h.co ≤ 2 ∧ 1 ≤ h.se ∧ h.se ≤ 3))) ∧ Is W0 a n cap c w' ∧ Kb c w w' := by
  obtain ⟨i0, hi, hz0, hz1, hz2⟩ := info_of info_stop'
  have mR0 := heap_new w (Tn.trB ⟨0, 0, 0, 0⟩ none 0 0 26)
  have C0 := C.alloc (Tn.trB ⟨0, 0, 0, 0⟩ none 0 0 26)
  have hcw := C.lt
  have hW0 : W0.heap.size ≤ w.heap.size := C.below.size
  have K0 : Kb c w (w.alloc (Tn.trB ⟨0, 0, 0, 0⟩ none 0 0 26)) := (Kb.refl c w).alloc _
  have hRc : w.heap.size ≠ c := by omega
  go_enter Try.func114, Try.ntmps114
  go_wp2_with fail
  refine (below_any C0 _).mono ?_
  rintro e w1 ⟨⟨x1, rfl, hx1, hy1⟩, C1, M1⟩
  have hx2 := hy1 (by omega)
  go_wp2_with fail
  refine (below_any C1 _).mono ?_
  rintro e w2 ⟨⟨x2, rfl, hx3, hy2⟩, C2, M2⟩
  have hx4 := hy2 (by omega)
  go_wp2_with fail
  refine (below_any C2 _).mono ?_
  rintro e w3 ⟨⟨x3, rfl, hx5, hy3⟩, C3, M3⟩
  have hx6 := hy3 (by omega)
  have MV := (M1.trans M2).trans M3
  have mR3 := (MV.block _ hRc).trans mR0
  have K3 := K0.trans (Kb.moved MV)
  clear hy1 hy2 hy3 M1 M2 M3 MV C1 C2 C0 mR0 K0 C
  have C4 := C3.alloc (.cells #[.int .i64 id, .int .i64 (1 + x1), .int .i64 (1 + x2), .int .i64 (1 + x3), .slice none 0 0] 26)
  have mB4 := heap_new w3 (.cells #[.int .i64 id, .int .i64 (1 + x1), .int .i64 (1 + x2), .int .i64 (1 + x3), .slice none 0 0] 26)
  have mR4 := heap_old mR3 (.cells #[.int .i64 id, .int .i64 (1 + x1), .int .i64 (1 + x2), .int .i64 (1 + x3), .slice none 0 0] 26)
  have K4 := K3.alloc (.cells #[.int .i64 id, .int .i64 (1 + x1), .int .i64 (1 + x2), .int .i64 (1 + x3), .slice none 0 0] 26)
  have hBc : w3.heap.size ≠ c := by have := C3.lt; omega
  have hRB : w.heap.size < w3.heap.size := lt_of mR3
  have hBW : W0.heap.size ≤ w3.heap.size := by omega
  clear C3 mR3 K3
  go_wp2_with fail
  refine (once_any C4 _).mono ?_
  rintro e w5 ⟨⟨t1, rfl⟩, C5, M5⟩
  have mB5 := (M5.block _ hBc).trans mB4
  have mR5 := (M5.block _ hRc).trans mR4
  have K5 := K4.trans (Kb.moved M5)
  clear C4 mB4 mR4 K4 M5
  generalize w3.heap.size = B at *
  have HBD : Hid (((1 + x2) = 0 ∧ (1 + x3) = 0) ∨ (1 ≤ (1 + x2) ∧ (1 + x2) ≤ 2 ∧ 1 ≤ (1 + x3) ∧ (1 + x3) ≤ 3)) := Or.inr ⟨by omega, by omega, by omega, by omega⟩
  generalize (1 + x1) = dy at *
  generalize (1 + x2) = co at *
  generalize (1 + x3) = se at *
  clear hx1 hx2 hx3 hx4 hx5 hx6
  cases t1
  · go_wp2_with fail
    refine named fun W6 hW6 => ?_
    have C6 : Is W0 a n cap c W6 := by rw [hW6]; exact C5
    have mB6 : W6.heap[B]? = some (.cells #[.int .i64 id, .int .i64 dy, .int .i64 co, .int .i64 se, .slice none 0 0] 26) := by rw [hW6]; exact mB5
    have mR6 : W6.heap[w.heap.size]? = some (Tn.trB ⟨0, 0, 0, 0⟩ none 0 0 26) := by rw [hW6]; exact mR5
    have K6 : Kb c w W6 := by rw [hW6]; exact K5
    clear hW6 C5 mB5 mR5 K5
    refine (once_any C6 _).mono ?_
    rintro e w7 ⟨⟨t2, rfl⟩, C7, M7⟩
    have mB7 := (M7.block _ hBc).trans mB6
    have mR7 := (M7.block _ hRc).trans mR6
    have K7 := K6.trans (Kb.moved M7)
    clear C6 mB6 mR6 K6 M7
    cases t2
    · go_wp2_with fail
      refine named fun W8 hW8 => ?_
      have CA : Is W0 a n cap c W8 := by rw [hW8]; exact C7
      have mB : W8.heap[B]? = some (.cells #[.int .i64 id, .int .i64 dy, .int .i64 co, .int .i64 se, .slice none 0 0] 26) := by rw [hW8]; exact mB7
      have mR : W8.heap[w.heap.size]? = some (Tn.trB ⟨0, 0, 0, 0⟩ none 0 0 26) := by rw [hW8]; exact mR7
      have KA : Kb c w W8 := by rw [hW8]; exact K7
      clear hW8 C7 mB7 mR7 K7
      have hB := lt_of mB
      have hR := lt_of mR
      go_wp2_with fail
      refine (below_any CA _).mono ?_
      rintro e u1 ⟨⟨at0, rfl, ha0, ha1⟩, C1, M1⟩
      go_wp2_with fail
      refine (below_any C1 _).mono ?_
      rintro e u2 ⟨⟨st0, rfl, hs0, hs1⟩, C2, M2⟩
      go_wp2_with fail
      refine (below_any C2 _).mono ?_
      rintro e u3 ⟨⟨nn, rfl, hn0, hn1⟩, C3, M3⟩
      have ha2 := ha1 (by omega)
      have hs2 := hs1 (by omega)
      have hn2 := hn1 (by omega)
      clear ha1 hs1 hn1
      have MV := (M1.trans M2).trans M3
      have mB3 := (MV.block _ hBc).trans mB
      have mR3 := (MV.block _ hRc).trans mR
      have KA3 := KA.trans (Kb.moved MV)
      clear M1 M2 M3 MV C1 C2 CA mB mR KA
      obtain ⟨m, rfl⟩ : ∃ m : Nat, nn = m := ⟨nn.toNat, by omega⟩
      have hRB' : w.heap.size ≠ B := by omega
      go_wp2
      go_loopw [6, 7, 9] (fun t s i wr => ∃ (k : Nat) (x y : Int) (l : List St) (va : Option Addr) (vc : Nat), k ≤ m + 2 ∧ i = .int .i64 k ∧ t = .int .i64 x ∧ s = .int .i64 y ∧ 0 ≤ x ∧ x ≤ 900 + 128 * (k : Int) ∧ 0 ≤ y ∧ y ≤ 100 + (k : Int) ∧ l.length = k ∧ Is W0 a n cap c wr ∧ Kb c w wr ∧ wr.heap[w.heap.size]? = some (Tn.trB ⟨0, 0, 0, 0⟩ none 0 0 26) ∧ wr.heap[B]? = some (.cells #[.int .i64 id, .int .i64 dy, .int .i64 co, .int .i64 se, .slice va k vc] 26) ∧ wr.ownsRow w.heap.size 37 3 (.slice va k vc) k (scells l)) (fun _ _ i _ => m + 2 - (intOf i).toNat)
      case atStart => exact ⟨0, at0, st0, [], none, 0, by omega, rfl, rfl, rfl, ha0, by omega, hs0, by omega, rfl, C3, KA3, mR3, mB3, ⟨rfl, Or.inl ⟨rfl, rfl⟩⟩⟩
      case round =>
        obtain ⟨k, x, y, l, va, vc, hk, rfl, rfl, rfl, hx0, hx1, hy0, hy1, hlk, Cr, Kr, mRr, mBr, Or⟩ := hrel
        clear C3 KA3 mR3 mB3
        by_cases hkm : k < m + 2
        · have hkd : decide ((k : Int) < 2 + (m : Int)) = true := decide_eq_true (by omega)
          have HKM : Hid (_) := hkm
          clear hkm
          go_wp2_with fail
          refine named fun WS hWS => ?_
          obtain ⟨z7, xS⟩ : ∃ z7 : Int, WS.heap[wr.heap.size]? = some (.cells #[.int .i64 z7, .int .i64 x, .int .i64 0] 37) := ⟨_, by rw [hWS]; exact heap_new _ _⟩
          have CS : Is W0 a n cap c WS := by rw [hWS]; exact Cr.alloc _
          have LS : Below wr.heap.size wr WS := by rw [hWS]; exact new_below _ _
          have mRS := kept LS (lt_of mRr) mRr
          have mBS := kept LS (lt_of mBr) mBr
          have OS := own_below Or LS (Nat.le_refl _)
          have KS := Kr.trans (Kb.of c LS)
          have hSc : wr.heap.size ≠ c := by have := Cr.lt; omega
          have HOL : Hid (∀ b, (Value.slice va k vc).ownBlock = some b → w.heap.size ≤ b ∧ b < wr.heap.size) := fun b hb => Or.lt b hb
          have hSB : B < wr.heap.size := lt_of mBr
          have hSw : w.heap.size < wr.heap.size := lt_of mRr
          clear hWS Cr LS mRr mBr Or Kr
          generalize wr.heap.size = S at *
          refine (below_any CS _).mono ?_
          rintro e v1 ⟨⟨d9, rfl, hd0, hd1⟩, C1, M1⟩
          have hd2 := hd1 (by omega)
          have xS1 := (M1.block _ hSc).trans xS
          have mR1 := (M1.block _ hRc).trans mRS
          have mB1 := (M1.block _ hBc).trans mBS
          have O1 := Cur.owns_moved OS M1 hcw
          have K1 := KS.trans (Kb.moved M1)
          clear CS M1 xS mRS mBS OS KS hd1
          have s0 : v1.cell? ⟨S, 0, none⟩ = some (.int .i64 z7) := cell_at xS1 0
          have s1 : v1.cell? ⟨S, 1, none⟩ = some (.int .i64 x) := cell_at xS1 1
          have s2 : v1.cell? ⟨S, 2, none⟩ = some (.int .i64 0) := cell_at xS1 2
          have g2 : v1.frozen? ⟨S, 2, none⟩ = false := frozen_at xS1 2
          have b4 : v1.cell? ⟨B, 4, none⟩ = some (.slice va k vc) := cell_at mB1 4
          have oS : (Value.slice va k vc).ownBlock ≠ some S := fun h => by have := (HOL.out S h).2; omega
          have oB := Pk.own_ne' O1 mB1 (by decide)
          have oR := Pk.own_ne' O1 mR1 (by decide)
          have oc : (Value.slice va k vc).ownBlock ≠ some c := fun h => by have := (HOL.out c h).1; omega
          have hBS : B ≠ S := by omega
          have hSB' : S ≠ B := by omega
          have HX : Hid (∀ w4, ((v1.setCell ⟨S, 2, none⟩ (.int .i64 (x + d9))).alloc (.cells #[.int .i64 z7, .int .i64 x, .int .i64 (x + d9)] 37)).grownBy w4 (Value.slice va k vc).ownBlock → Is W0 a n cap c w4 ∧ Kb c w w4 ∧ w4.heap[S]? = some (.cells #[.int .i64 z7, .int .i64 x, .int .i64 (x + d9)] 37) ∧ w4.heap[B]? = some (.cells #[.int .i64 id, .int .i64 dy, .int .i64 co, .int .i64 se, .slice va k vc] 26) ∧ w4.heap[w.heap.size]? = some (Tn.trB ⟨0, 0, 0, 0⟩ none 0 0 26)) := by
            intro w4 G
            have xS2 := heap_old (h_set (i := 2) xS1 (.int .i64 (x + d9))) (.cells #[.int .i64 z7, .int .i64 x, .int .i64 (x + d9)] 37)
            have mB2 := heap_old (h_other (i := 2) mB1 hBS (.int .i64 (x + d9))) (.cells #[.int .i64 z7, .int .i64 x, .int .i64 (x + d9)] 37)
            have mR2 := heap_old (h_other (i := 2) mR1 (by omega : w.heap.size ≠ S) (.int .i64 (x + d9))) (.cells #[.int .i64 z7, .int .i64 x, .int .i64 (x + d9)] 37)
            refine ⟨((C1.set S 2 _ hSc (by omega)).alloc _).grown G oc (fun b hb => by have := (HOL.out b hb).1; omega), ((K1.set S 2 _ (by omega)).alloc _).grown G (fun b hb => (HOL.out b hb).1), ?_, ?_, ?_⟩
            · exact (G.block S (lt_of xS2) (fun h => oS h.symm)).trans xS2
            · exact (G.block B (lt_of mB2) (fun h => oB h.symm)).trans mB2
            · exact (G.block w.heap.size (lt_of mR2) (fun h => oR h.symm)).trans mR2
          have O2 := own_other O1 oS 2 (.int .i64 (x + d9))
          have hbase : w.heap.size ≤ v1.heap.size := K1.size
          have HMV : Hid (_ ∧ _) := ⟨hx0, hx1⟩
          clear O1 K1 C1 mB1 mR1 xS1 HOL oS oB oR
          go_wp2_with (at_builtin; refine wpList_append_own _ rfl _ _ 24 rfl w.heap.size 37 i0 (.agg #[.int .i64 0, .int .i64 0, .int .i64 0]) 3 24 Try.underlying24 hi hz0 hz1 hz2 rfl (by decide) _ _ _ rfl (O2.alloc _) ⟨v1.heap.size, 0, none⟩ 1 1 [.int .i64 z7, .int .i64 x, .int .i64 (x + d9)] rfl rfl ?c1 ?c2 ?c3 ?c4 ?c5 ?_)
          case c1 => intro j u h; have h9 := new3 (v1.setCell ⟨S, 2, none⟩ (.int .i64 (x + d9))) 37 _ _ _ j u h; rw [World.size_setCell] at h9; exact h9
          case c2 => intro u hu; simp at hu; rcases hu with rfl | rfl | rfl <;> rfl
          case c3 => unfold maxLen; have := HKM.out; omega
          case c4 => have := HKM.out; omega
          case c5 => simp; omega
          intro v4 w4 hown4 hgrow _
          obtain ⟨C4, K4, xS4, mB4, mR4⟩ := HX.out w4 hgrow
          rw [scells_snoc l ⟨z7, x, x + d9⟩] at hown4
          have oB4 := Pk.own_ne' hown4 mB4 (by decide)
          obtain ⟨ua, uc, rfl, -⟩ := own_form hown4
          have q4 : w4.cell? ⟨B, 4, none⟩ = some (.slice va k vc) := cell_at mB4 4
          have h4 : w4.frozen? ⟨B, 4, none⟩ = false := frozen_at mB4 4
          have C5 := C4.set B 4 (.slice ua (k + 1) uc) hBc hBW
          have K5 := K4.set B 4 (.slice ua (k + 1) uc) (by omega)
          have mB5 := h_set (i := 4) mB4 (.slice ua (k + 1) uc)
          have mR5 := h_other (i := 4) mR4 hRB' (.slice ua (k + 1) uc)
          have xS5 := h_other (i := 4) xS4 hSB' (.slice ua (k + 1) uc)
          have O5 := own_other hown4 oB4 4 (.slice ua (k + 1) uc)
          have t2 : (w4.setCell ⟨B, 4, none⟩ (.slice ua (k + 1) uc)).cell? ⟨S, 2, none⟩ = some (.int .i64 (x + d9)) := cell_at xS5 2
          clear HX hgrow C4 K4 xS4 mB4 mR4 hown4 oB4 O2 s0 s1 s2 g2 b4
          go_wp2
          clear q4 h4
          generalize w4.setCell ⟨B, 4, none⟩ (.slice ua (k + 1) uc) = V5 at *
          have HBL : Hid (∀ wx, Is W0 a n cap c wx → Calls Try.prog 69 #[.pointer (some ⟨c, 0, none⟩), .int .i64 120] wx fun e w' => (∃ x : Int, e = .returned (.int .i64 x) ∧ 0 ≤ x ∧ (0 < (120 : Int) → x < 120)) ∧ Is W0 a n cap c w' ∧ Moved c wx w') := fun wx h => below_any h 120
          have hw1 : IntKind.i64.wrap (x + d9 + 1) = x + d9 + 1 := by rw [IntKind.wrap_i64]; omega
          go_region_held3 (fun w' => w'.cell? ⟨S, 2, none⟩ = some (.int .i64 (x + d9))) (go_keep) (first
            | (go_at_call 69; refine (HBL.out _ ?_).mono ?_; (first | exact C5 | exact C5.drewN 1); rintro e v6 ⟨⟨y9, rfl, hp0, hp1⟩, C6, M6⟩; have hp2 := hp1 (by omega); have xS6 : v6.heap[S]? = _ := (M6.block _ hSc).trans xS5; have mR6 : v6.heap[w.heap.size]? = _ := (M6.block _ hRc).trans mR5; have mB6 : v6.heap[B]? = _ := (M6.block _ hBc).trans mB5; have O6 : v6.ownsRow w.heap.size 37 3 (.slice ua (k + 1) uc) (k + 1) (scells (l ++ [⟨z7, x, x + d9⟩])) := Cur.owns_moved O5 ⟨M6.size, M6.block⟩ hcw; have K6 : Kb c w v6 := K5.trans (Kb.moved ⟨M6.size, M6.block⟩); have t6 : v6.cell? ⟨S, 2, none⟩ = some (.int .i64 (x + d9)) := cell_at xS6 2; have hw2 : IntKind.i64.wrap (x + d9 + 1 + y9) = x + d9 + 1 + y9 := (by rw [IntKind.wrap_i64]; omega)))
          all_goals
            clear hp1
            go_wp2
            go_roundw
            case rel => exact ⟨k + 1, x + d9 + 1 + y9, y + 1, l ++ [⟨z7, x, x + d9⟩], ua, uc, HKM.out, by go_num, rfl, rfl, by omega, by omega, by omega, by omega, by rw [List.length_append, hlk]; rfl, C6, K6, mR6, mB6, O6⟩
            case measure => have := HKM.out; simp [intOf]; omega
        · obtain rfl : k = m + 2 := by omega
          have hkd : decide (((m + 2 : Nat) : Int) < 2 + (m : Int)) = false := decide_eq_false (by omega)
          have HLN : Hid (l.length = m + 2) := hlk
          have oR := Pk.own_ne' Or mRr (by decide)
          clear hkm hlk
          have b0 : wr.cell? ⟨B, 0, none⟩ = some (.int .i64 id) := cell_at mBr 0
          have b1 : wr.cell? ⟨B, 1, none⟩ = some (.int .i64 dy) := cell_at mBr 1
          have b2 : wr.cell? ⟨B, 2, none⟩ = some (.int .i64 co) := cell_at mBr 2
          have b3 : wr.cell? ⟨B, 3, none⟩ = some (.int .i64 se) := cell_at mBr 3
          have b4 : wr.cell? ⟨B, 4, none⟩ = some (.slice va (m + 2) vc) := cell_at mBr 4
          have z0 : wr.cell? ⟨w.heap.size, 0, none⟩ = some (.int .i64 0) := cell_at mRr 0
          have z1 : wr.cell? ⟨w.heap.size, 1, none⟩ = some (.int .i64 0) := cell_at mRr 1
          have z2 : wr.cell? ⟨w.heap.size, 2, none⟩ = some (.int .i64 0) := cell_at mRr 2
          have z3 : wr.cell? ⟨w.heap.size, 3, none⟩ = some (.int .i64 0) := cell_at mRr 3
          have z4 : wr.cell? ⟨w.heap.size, 4, none⟩ = some (.slice none 0 0) := cell_at mRr 4
          have y0 : wr.frozen? ⟨w.heap.size, 0, none⟩ = false := frozen_at mRr 0
          have y1 : wr.frozen? ⟨w.heap.size, 1, none⟩ = false := frozen_at mRr 1
          have y2 : wr.frozen? ⟨w.heap.size, 2, none⟩ = false := frozen_at mRr 2
          have y3 : wr.frozen? ⟨w.heap.size, 3, none⟩ = false := frozen_at mRr 3
          have y4 : wr.frozen? ⟨w.heap.size, 4, none⟩ = false := frozen_at mRr 4
          have HOF : Hid (∀ i u, _) := fun i u => own_other (own_other (own_other (own_other (own_other Or oR 0 (.int .i64 id)) oR 1 (.int .i64 dy)) oR 2 (.int .i64 co)) oR 3 (.int .i64 se)) oR i u
          have HCF : Hid (∀ i u, _) := fun i u => ((((Cr.set w.heap.size 0 (.int .i64 id) hRc hW0).set w.heap.size 1 (.int .i64 dy) hRc hW0).set w.heap.size 2 (.int .i64 co) hRc hW0).set w.heap.size 3 (.int .i64 se) hRc hW0).set w.heap.size i u hRc hW0
          have HKF : Hid (∀ i u, _) := fun i u => ((((Kr.set w.heap.size 0 (.int .i64 id) (Nat.le_refl _)).set w.heap.size 1 (.int .i64 dy) (Nat.le_refl _)).set w.heap.size 2 (.int .i64 co) (Nat.le_refl _)).set w.heap.size 3 (.int .i64 se) (Nat.le_refl _)).set w.heap.size i u (Nat.le_refl _)
          clear Or oR Cr Kr mRr mBr
          go_wp2
          refine bodyPost_ret (v := trV ⟨id, dy, co, se⟩ va (m + 2) vc) (by simp [results, Try.results114, go_sem, z0, z1, z2, z3, z4]) rfl ?_
          refine ⟨⟨⟨id, dy, co, se⟩, l, va, vc, by rw [HLN.out], rfl, ?_, by rw [HLN.out]; omega, by rw [HLN.out]; omega, HBD.out⟩, HCF.out 4 _, HKF.out 4 _⟩
          rw [HLN.out]
          exact HOF.out 4 _
    · have v2 : w7.cell? ⟨B, 2, none⟩ = some (.int .i64 co) := cell_at mB7 2
      have f2 : w7.frozen? ⟨B, 2, none⟩ = false := frozen_at mB7 2
      have v3 : w7.cell? ⟨B, 3, none⟩ = some (.int .i64 se) := cell_at mB7 3
      have f3 : w7.frozen? ⟨B, 3, none⟩ = false := frozen_at mB7 3
      go_wp2_with fail
      refine named fun W8 hW8 => ?_
      have CA : Is W0 a n cap c W8 := by rw [hW8]; exact (C7.set _ _ _ hBc hBW).set _ _ _ hBc hBW
      have mB : W8.heap[B]? = some (.cells #[.int .i64 id, .int .i64 dy, .int .i64 0, .int .i64 0, .slice none 0 0] 26) := by rw [hW8]; exact h_set (h_set mB7 _) _
      have mR : W8.heap[w.heap.size]? = some (Tn.trB ⟨0, 0, 0, 0⟩ none 0 0 26) := by rw [hW8]; exact h_other (h_other mR7 (by omega) _) (by omega) _
      have KA : Kb c w W8 := by rw [hW8]; exact (K7.set _ _ _ (by omega)).set _ _ _ (by omega)
      clear hW8 C7 mB7 mR7 K7
      have hB := lt_of mB
      have hR := lt_of mR
      go_wp2_with fail
      refine (below_any CA _).mono ?_
      rintro e u1 ⟨⟨at0, rfl, ha0, ha1⟩, C1, M1⟩
      go_wp2_with fail
      refine (below_any C1 _).mono ?_
      rintro e u2 ⟨⟨st0, rfl, hs0, hs1⟩, C2, M2⟩
      go_wp2_with fail
      refine (below_any C2 _).mono ?_
      rintro e u3 ⟨⟨nn, rfl, hn0, hn1⟩, C3, M3⟩
      have ha2 := ha1 (by omega)
      have hs2 := hs1 (by omega)
      have hn2 := hn1 (by omega)
      clear ha1 hs1 hn1
      have MV := (M1.trans M2).trans M3
      have mB3 := (MV.block _ hBc).trans mB
      have mR3 := (MV.block _ hRc).trans mR
      have KA3 := KA.trans (Kb.moved MV)
      clear M1 M2 M3 MV C1 C2 CA mB mR KA
      obtain ⟨m, rfl⟩ : ∃ m : Nat, nn = m := ⟨nn.toNat, by omega⟩
      have hRB' : w.heap.size ≠ B := by omega
      go_wp2
      go_loopw [6, 7, 9] (fun t s i wr => ∃ (k : Nat) (x y : Int) (l : List St) (va : Option Addr) (vc : Nat), k ≤ m + 2 ∧ i = .int .i64 k ∧ t = .int .i64 x ∧ s = .int .i64 y ∧ 0 ≤ x ∧ x ≤ 900 + 128 * (k : Int) ∧ 0 ≤ y ∧ y ≤ 100 + (k : Int) ∧ l.length = k ∧ Is W0 a n cap c wr ∧ Kb c w wr ∧ wr.heap[w.heap.size]? = some (Tn.trB ⟨0, 0, 0, 0⟩ none 0 0 26) ∧ wr.heap[B]? = some (.cells #[.int .i64 id, .int .i64 dy, .int .i64 0, .int .i64 0, .slice va k vc] 26) ∧ wr.ownsRow w.heap.size 37 3 (.slice va k vc) k (scells l)) (fun _ _ i _ => m + 2 - (intOf i).toNat)
      case atStart => exact ⟨0, at0, st0, [], none, 0, by omega, rfl, rfl, rfl, ha0, by omega, hs0, by omega, rfl, C3, KA3, mR3, mB3, ⟨rfl, Or.inl ⟨rfl, rfl⟩⟩⟩
      case round =>
        obtain ⟨k, x, y, l, va, vc, hk, rfl, rfl, rfl, hx0, hx1, hy0, hy1, hlk, Cr, Kr, mRr, mBr, Or⟩ := hrel
        clear C3 KA3 mR3 mB3
        by_cases hkm : k < m + 2
        · have hkd : decide ((k : Int) < 2 + (m : Int)) = true := decide_eq_true (by omega)
          have HKM : Hid (_) := hkm
          clear hkm
          go_wp2_with fail
          refine named fun WS hWS => ?_
          obtain ⟨z7, xS⟩ : ∃ z7 : Int, WS.heap[wr.heap.size]? = some (.cells #[.int .i64 z7, .int .i64 x, .int .i64 0] 37) := ⟨_, by rw [hWS]; exact heap_new _ _⟩
          have CS : Is W0 a n cap c WS := by rw [hWS]; exact Cr.alloc _
          have LS : Below wr.heap.size wr WS := by rw [hWS]; exact new_below _ _
          have mRS := kept LS (lt_of mRr) mRr
          have mBS := kept LS (lt_of mBr) mBr
          have OS := own_below Or LS (Nat.le_refl _)
          have KS := Kr.trans (Kb.of c LS)
          have hSc : wr.heap.size ≠ c := by have := Cr.lt; omega
          have HOL : Hid (∀ b, (Value.slice va k vc).ownBlock = some b → w.heap.size ≤ b ∧ b < wr.heap.size) := fun b hb => Or.lt b hb
          have hSB : B < wr.heap.size := lt_of mBr
          have hSw : w.heap.size < wr.heap.size := lt_of mRr
          clear hWS Cr LS mRr mBr Or Kr
          generalize wr.heap.size = S at *
          refine (below_any CS _).mono ?_
          rintro e v1 ⟨⟨d9, rfl, hd0, hd1⟩, C1, M1⟩
          have hd2 := hd1 (by omega)
          have xS1 := (M1.block _ hSc).trans xS
          have mR1 := (M1.block _ hRc).trans mRS
          have mB1 := (M1.block _ hBc).trans mBS
          have O1 := Cur.owns_moved OS M1 hcw
          have K1 := KS.trans (Kb.moved M1)
          clear CS M1 xS mRS mBS OS KS hd1
          have s0 : v1.cell? ⟨S, 0, none⟩ = some (.int .i64 z7) := cell_at xS1 0
          have s1 : v1.cell? ⟨S, 1, none⟩ = some (.int .i64 x) := cell_at xS1 1
          have s2 : v1.cell? ⟨S, 2, none⟩ = some (.int .i64 0) := cell_at xS1 2
          have g2 : v1.frozen? ⟨S, 2, none⟩ = false := frozen_at xS1 2
          have b4 : v1.cell? ⟨B, 4, none⟩ = some (.slice va k vc) := cell_at mB1 4
          have oS : (Value.slice va k vc).ownBlock ≠ some S := fun h => by have := (HOL.out S h).2; omega
          have oB := Pk.own_ne' O1 mB1 (by decide)
          have oR := Pk.own_ne' O1 mR1 (by decide)
          have oc : (Value.slice va k vc).ownBlock ≠ some c := fun h => by have := (HOL.out c h).1; omega
          have hBS : B ≠ S := by omega
          have hSB' : S ≠ B := by omega
          have HX : Hid (∀ w4, ((v1.setCell ⟨S, 2, none⟩ (.int .i64 (x + d9))).alloc (.cells #[.int .i64 z7, .int .i64 x, .int .i64 (x + d9)] 37)).grownBy w4 (Value.slice va k vc).ownBlock → Is W0 a n cap c w4 ∧ Kb c w w4 ∧ w4.heap[S]? = some (.cells #[.int .i64 z7, .int .i64 x, .int .i64 (x + d9)] 37) ∧ w4.heap[B]? = some (.cells #[.int .i64 id, .int .i64 dy, .int .i64 0, .int .i64 0, .slice va k vc] 26) ∧ w4.heap[w.heap.size]? = some (Tn.trB ⟨0, 0, 0, 0⟩ none 0 0 26)) := by
            intro w4 G
            have xS2 := heap_old (h_set (i := 2) xS1 (.int .i64 (x + d9))) (.cells #[.int .i64 z7, .int .i64 x, .int .i64 (x + d9)] 37)
            have mB2 := heap_old (h_other (i := 2) mB1 hBS (.int .i64 (x + d9))) (.cells #[.int .i64 z7, .int .i64 x, .int .i64 (x + d9)] 37)
            have mR2 := heap_old (h_other (i := 2) mR1 (by omega : w.heap.size ≠ S) (.int .i64 (x + d9))) (.cells #[.int .i64 z7, .int .i64 x, .int .i64 (x + d9)] 37)
            refine ⟨((C1.set S 2 _ hSc (by omega)).alloc _).grown G oc (fun b hb => by have := (HOL.out b hb).1; omega), ((K1.set S 2 _ (by omega)).alloc _).grown G (fun b hb => (HOL.out b hb).1), ?_, ?_, ?_⟩
            · exact (G.block S (lt_of xS2) (fun h => oS h.symm)).trans xS2
            · exact (G.block B (lt_of mB2) (fun h => oB h.symm)).trans mB2
            · exact (G.block w.heap.size (lt_of mR2) (fun h => oR h.symm)).trans mR2
          have O2 := own_other O1 oS 2 (.int .i64 (x + d9))
          have hbase : w.heap.size ≤ v1.heap.size := K1.size
          have HMV : Hid (_ ∧ _) := ⟨hx0, hx1⟩
          clear O1 K1 C1 mB1 mR1 xS1 HOL oS oB oR
          go_wp2_with (at_builtin; refine wpList_append_own _ rfl _ _ 24 rfl w.heap.size 37 i0 (.agg #[.int .i64 0, .int .i64 0, .int .i64 0]) 3 24 Try.underlying24 hi hz0 hz1 hz2 rfl (by decide) _ _ _ rfl (O2.alloc _) ⟨v1.heap.size, 0, none⟩ 1 1 [.int .i64 z7, .int .i64 x, .int .i64 (x + d9)] rfl rfl ?c1 ?c2 ?c3 ?c4 ?c5 ?_)
          case c1 => intro j u h; have h9 := new3 (v1.setCell ⟨S, 2, none⟩ (.int .i64 (x + d9))) 37 _ _ _ j u h; rw [World.size_setCell] at h9; exact h9
          case c2 => intro u hu; simp at hu; rcases hu with rfl | rfl | rfl <;> rfl
          case c3 => unfold maxLen; have := HKM.out; omega
          case c4 => have := HKM.out; omega
          case c5 => simp; omega
          intro v4 w4 hown4 hgrow _
          obtain ⟨C4, K4, xS4, mB4, mR4⟩ := HX.out w4 hgrow
          rw [scells_snoc l ⟨z7, x, x + d9⟩] at hown4
          have oB4 := Pk.own_ne' hown4 mB4 (by decide)
          obtain ⟨ua, uc, rfl, -⟩ := own_form hown4
          have q4 : w4.cell? ⟨B, 4, none⟩ = some (.slice va k vc) := cell_at mB4 4
          have h4 : w4.frozen? ⟨B, 4, none⟩ = false := frozen_at mB4 4
          have C5 := C4.set B 4 (.slice ua (k + 1) uc) hBc hBW
          have K5 := K4.set B 4 (.slice ua (k + 1) uc) (by omega)
          have mB5 := h_set (i := 4) mB4 (.slice ua (k + 1) uc)
          have mR5 := h_other (i := 4) mR4 hRB' (.slice ua (k + 1) uc)
          have xS5 := h_other (i := 4) xS4 hSB' (.slice ua (k + 1) uc)
          have O5 := own_other hown4 oB4 4 (.slice ua (k + 1) uc)
          have t2 : (w4.setCell ⟨B, 4, none⟩ (.slice ua (k + 1) uc)).cell? ⟨S, 2, none⟩ = some (.int .i64 (x + d9)) := cell_at xS5 2
          clear HX hgrow C4 K4 xS4 mB4 mR4 hown4 oB4 O2 s0 s1 s2 g2 b4
          go_wp2
          clear q4 h4
          generalize w4.setCell ⟨B, 4, none⟩ (.slice ua (k + 1) uc) = V5 at *
          have HBL : Hid (∀ wx, Is W0 a n cap c wx → Calls Try.prog 69 #[.pointer (some ⟨c, 0, none⟩), .int .i64 120] wx fun e w' => (∃ x : Int, e = .returned (.int .i64 x) ∧ 0 ≤ x ∧ (0 < (120 : Int) → x < 120)) ∧ Is W0 a n cap c w' ∧ Moved c wx w') := fun wx h => below_any h 120
          have hw1 : IntKind.i64.wrap (x + d9 + 1) = x + d9 + 1 := by rw [IntKind.wrap_i64]; omega
          go_region_held3 (fun w' => w'.cell? ⟨S, 2, none⟩ = some (.int .i64 (x + d9))) (go_keep) (first
            | (go_at_call 69; refine (HBL.out _ ?_).mono ?_; (first | exact C5 | exact C5.drewN 1); rintro e v6 ⟨⟨y9, rfl, hp0, hp1⟩, C6, M6⟩; have hp2 := hp1 (by omega); have xS6 : v6.heap[S]? = _ := (M6.block _ hSc).trans xS5; have mR6 : v6.heap[w.heap.size]? = _ := (M6.block _ hRc).trans mR5; have mB6 : v6.heap[B]? = _ := (M6.block _ hBc).trans mB5; have O6 : v6.ownsRow w.heap.size 37 3 (.slice ua (k + 1) uc) (k + 1) (scells (l ++ [⟨z7, x, x + d9⟩])) := Cur.owns_moved O5 ⟨M6.size, M6.block⟩ hcw; have K6 : Kb c w v6 := K5.trans (Kb.moved ⟨M6.size, M6.block⟩); have t6 : v6.cell? ⟨S, 2, none⟩ = some (.int .i64 (x + d9)) := cell_at xS6 2; have hw2 : IntKind.i64.wrap (x + d9 + 1 + y9) = x + d9 + 1 + y9 := (by rw [IntKind.wrap_i64]; omega)))
          all_goals
            clear hp1
            go_wp2
            go_roundw
            case rel => exact ⟨k + 1, x + d9 + 1 + y9, y + 1, l ++ [⟨z7, x, x + d9⟩], ua, uc, HKM.out, by go_num, rfl, rfl, by omega, by omega, by omega, by omega, by rw [List.length_append, hlk]; rfl, C6, K6, mR6, mB6, O6⟩
            case measure => have := HKM.out; simp [intOf]; omega
        · obtain rfl : k = m + 2 := by omega
          have hkd : decide (((m + 2 : Nat) : Int) < 2 + (m : Int)) = false := decide_eq_false (by omega)
          have HLN : Hid (l.length = m + 2) := hlk
          have oR := Pk.own_ne' Or mRr (by decide)
          clear hkm hlk
          have b0 : wr.cell? ⟨B, 0, none⟩ = some (.int .i64 id) := cell_at mBr 0
          have b1 : wr.cell? ⟨B, 1, none⟩ = some (.int .i64 dy) := cell_at mBr 1
          have b2 : wr.cell? ⟨B, 2, none⟩ = some (.int .i64 0) := cell_at mBr 2
          have b3 : wr.cell? ⟨B, 3, none⟩ = some (.int .i64 0) := cell_at mBr 3
          have b4 : wr.cell? ⟨B, 4, none⟩ = some (.slice va (m + 2) vc) := cell_at mBr 4
          have z0 : wr.cell? ⟨w.heap.size, 0, none⟩ = some (.int .i64 0) := cell_at mRr 0
          have z1 : wr.cell? ⟨w.heap.size, 1, none⟩ = some (.int .i64 0) := cell_at mRr 1
          have z2 : wr.cell? ⟨w.heap.size, 2, none⟩ = some (.int .i64 0) := cell_at mRr 2
          have z3 : wr.cell? ⟨w.heap.size, 3, none⟩ = some (.int .i64 0) := cell_at mRr 3
          have z4 : wr.cell? ⟨w.heap.size, 4, none⟩ = some (.slice none 0 0) := cell_at mRr 4
          have y0 : wr.frozen? ⟨w.heap.size, 0, none⟩ = false := frozen_at mRr 0
          have y1 : wr.frozen? ⟨w.heap.size, 1, none⟩ = false := frozen_at mRr 1
          have y2 : wr.frozen? ⟨w.heap.size, 2, none⟩ = false := frozen_at mRr 2
          have y3 : wr.frozen? ⟨w.heap.size, 3, none⟩ = false := frozen_at mRr 3
          have y4 : wr.frozen? ⟨w.heap.size, 4, none⟩ = false := frozen_at mRr 4
          have HOF : Hid (∀ i u, _) := fun i u => own_other (own_other (own_other (own_other (own_other Or oR 0 (.int .i64 id)) oR 1 (.int .i64 dy)) oR 2 (.int .i64 0)) oR 3 (.int .i64 0)) oR i u
          have HCF : Hid (∀ i u, _) := fun i u => ((((Cr.set w.heap.size 0 (.int .i64 id) hRc hW0).set w.heap.size 1 (.int .i64 dy) hRc hW0).set w.heap.size 2 (.int .i64 0) hRc hW0).set w.heap.size 3 (.int .i64 0) hRc hW0).set w.heap.size i u hRc hW0
          have HKF : Hid (∀ i u, _) := fun i u => ((((Kr.set w.heap.size 0 (.int .i64 id) (Nat.le_refl _)).set w.heap.size 1 (.int .i64 dy) (Nat.le_refl _)).set w.heap.size 2 (.int .i64 0) (Nat.le_refl _)).set w.heap.size 3 (.int .i64 0) (Nat.le_refl _)).set w.heap.size i u (Nat.le_refl _)
          clear Or oR Cr Kr mRr mBr
          go_wp2
          refine bodyPost_ret (v := trV ⟨id, dy, 0, 0⟩ va (m + 2) vc) (by simp [results, Try.results114, go_sem, z0, z1, z2, z3, z4]) rfl ?_
          refine ⟨⟨⟨id, dy, 0, 0⟩, l, va, vc, by rw [HLN.out], rfl, ?_, by rw [HLN.out]; omega, by rw [HLN.out]; omega, Or.inl ⟨rfl, rfl⟩⟩, HCF.out 4 _, HKF.out 4 _⟩
          rw [HLN.out]
          exact HOF.out 4 _
  · have v1 : w5.cell? ⟨B, 1, none⟩ = some (.int .i64 dy) := cell_at mB5 1
    have f1 : w5.frozen? ⟨B, 1, none⟩ = false := frozen_at mB5 1
    go_wp2_with fail
    refine named fun W6 hW6 => ?_
    have C6 : Is W0 a n cap c W6 := by rw [hW6]; exact C5.set _ _ _ hBc hBW
    have mB6 : W6.heap[B]? = some (.cells #[.int .i64 id, .int .i64 127, .int .i64 co, .int .i64 se, .slice none 0 0] 26) := by rw [hW6]; exact h_set mB5 _
    have mR6 : W6.heap[w.heap.size]? = some (Tn.trB ⟨0, 0, 0, 0⟩ none 0 0 26) := by rw [hW6]; exact h_other mR5 (by omega) _
    have K6 : Kb c w W6 := by rw [hW6]; exact K5.set _ _ _ (by omega)
    clear hW6 C5 mB5 mR5 K5
    refine (once_any C6 _).mono ?_
    rintro e w7 ⟨⟨t2, rfl⟩, C7, M7⟩
    have mB7 := (M7.block _ hBc).trans mB6
    have mR7 := (M7.block _ hRc).trans mR6
    have K7 := K6.trans (Kb.moved M7)
    clear C6 mB6 mR6 K6 M7
    cases t2
    · go_wp2_with fail
      refine named fun W8 hW8 => ?_
      have CA : Is W0 a n cap c W8 := by rw [hW8]; exact C7
      have mB : W8.heap[B]? = some (.cells #[.int .i64 id, .int .i64 127, .int .i64 co, .int .i64 se, .slice none 0 0] 26) := by rw [hW8]; exact mB7
      have mR : W8.heap[w.heap.size]? = some (Tn.trB ⟨0, 0, 0, 0⟩ none 0 0 26) := by rw [hW8]; exact mR7
      have KA : Kb c w W8 := by rw [hW8]; exact K7
      clear hW8 C7 mB7 mR7 K7
      have hB := lt_of mB
      have hR := lt_of mR
      go_wp2_with fail
      refine (below_any CA _).mono ?_
      rintro e u1 ⟨⟨at0, rfl, ha0, ha1⟩, C1, M1⟩
      go_wp2_with fail
      refine (below_any C1 _).mono ?_
      rintro e u2 ⟨⟨st0, rfl, hs0, hs1⟩, C2, M2⟩
      go_wp2_with fail
      refine (below_any C2 _).mono ?_
      rintro e u3 ⟨⟨nn, rfl, hn0, hn1⟩, C3, M3⟩
      have ha2 := ha1 (by omega)
      have hs2 := hs1 (by omega)
      have hn2 := hn1 (by omega)
      clear ha1 hs1 hn1
      have MV := (M1.trans M2).trans M3
      have mB3 := (MV.block _ hBc).trans mB
      have mR3 := (MV.block _ hRc).trans mR
      have KA3 := KA.trans (Kb.moved MV)
      clear M1 M2 M3 MV C1 C2 CA mB mR KA
      obtain ⟨m, rfl⟩ : ∃ m : Nat, nn = m := ⟨nn.toNat, by omega⟩
      have hRB' : w.heap.size ≠ B := by omega
      go_wp2
      go_loopw [6, 7, 9] (fun t s i wr => ∃ (k : Nat) (x y : Int) (l : List St) (va : Option Addr) (vc : Nat), k ≤ m + 2 ∧ i = .int .i64 k ∧ t = .int .i64 x ∧ s = .int .i64 y ∧ 0 ≤ x ∧ x ≤ 900 + 128 * (k : Int) ∧ 0 ≤ y ∧ y ≤ 100 + (k : Int) ∧ l.length = k ∧ Is W0 a n cap c wr ∧ Kb c w wr ∧ wr.heap[w.heap.size]? = some (Tn.trB ⟨0, 0, 0, 0⟩ none 0 0 26) ∧ wr.heap[B]? = some (.cells #[.int .i64 id, .int .i64 127, .int .i64 co, .int .i64 se, .slice va k vc] 26) ∧ wr.ownsRow w.heap.size 37 3 (.slice va k vc) k (scells l)) (fun _ _ i _ => m + 2 - (intOf i).toNat)
      case atStart => exact ⟨0, at0, st0, [], none, 0, by omega, rfl, rfl, rfl, ha0, by omega, hs0, by omega, rfl, C3, KA3, mR3, mB3, ⟨rfl, Or.inl ⟨rfl, rfl⟩⟩⟩
      case round =>
        obtain ⟨k, x, y, l, va, vc, hk, rfl, rfl, rfl, hx0, hx1, hy0, hy1, hlk, Cr, Kr, mRr, mBr, Or⟩ := hrel
        clear C3 KA3 mR3 mB3
        by_cases hkm : k < m + 2
        · have hkd : decide ((k : Int) < 2 + (m : Int)) = true := decide_eq_true (by omega)
          have HKM : Hid (_) := hkm
          clear hkm
          go_wp2_with fail
          refine named fun WS hWS => ?_
          obtain ⟨z7, xS⟩ : ∃ z7 : Int, WS.heap[wr.heap.size]? = some (.cells #[.int .i64 z7, .int .i64 x, .int .i64 0] 37) := ⟨_, by rw [hWS]; exact heap_new _ _⟩
          have CS : Is W0 a n cap c WS := by rw [hWS]; exact Cr.alloc _
          have LS : Below wr.heap.size wr WS := by rw [hWS]; exact new_below _ _
          have mRS := kept LS (lt_of mRr) mRr
          have mBS := kept LS (lt_of mBr) mBr
          have OS := own_below Or LS (Nat.le_refl _)
          have KS := Kr.trans (Kb.of c LS)
          have hSc : wr.heap.size ≠ c := by have := Cr.lt; omega
          have HOL : Hid (∀ b, (Value.slice va k vc).ownBlock = some b → w.heap.size ≤ b ∧ b < wr.heap.size) := fun b hb => Or.lt b hb
          have hSB : B < wr.heap.size := lt_of mBr
          have hSw : w.heap.size < wr.heap.size := lt_of mRr
          clear hWS Cr LS mRr mBr Or Kr
          generalize wr.heap.size = S at *
          refine (below_any CS _).mono ?_
          rintro e v1 ⟨⟨d9, rfl, hd0, hd1⟩, C1, M1⟩
          have hd2 := hd1 (by omega)
          have xS1 := (M1.block _ hSc).trans xS
          have mR1 := (M1.block _ hRc).trans mRS
          have mB1 := (M1.block _ hBc).trans mBS
          have O1 := Cur.owns_moved OS M1 hcw
          have K1 := KS.trans (Kb.moved M1)
          clear CS M1 xS mRS mBS OS KS hd1
          have s0 : v1.cell? ⟨S, 0, none⟩ = some (.int .i64 z7) := cell_at xS1 0
          have s1 : v1.cell? ⟨S, 1, none⟩ = some (.int .i64 x) := cell_at xS1 1
          have s2 : v1.cell? ⟨S, 2, none⟩ = some (.int .i64 0) := cell_at xS1 2
          have g2 : v1.frozen? ⟨S, 2, none⟩ = false := frozen_at xS1 2
          have b4 : v1.cell? ⟨B, 4, none⟩ = some (.slice va k vc) := cell_at mB1 4
          have oS : (Value.slice va k vc).ownBlock ≠ some S := fun h => by have := (HOL.out S h).2; omega
          have oB := Pk.own_ne' O1 mB1 (by decide)
          have oR := Pk.own_ne' O1 mR1 (by decide)
          have oc : (Value.slice va k vc).ownBlock ≠ some c := fun h => by have := (HOL.out c h).1; omega
          have hBS : B ≠ S := by omega
          have hSB' : S ≠ B := by omega
          have HX : Hid (∀ w4, ((v1.setCell ⟨S, 2, none⟩ (.int .i64 (x + d9))).alloc (.cells #[.int .i64 z7, .int .i64 x, .int .i64 (x + d9)] 37)).grownBy w4 (Value.slice va k vc).ownBlock → Is W0 a n cap c w4 ∧ Kb c w w4 ∧ w4.heap[S]? = some (.cells #[.int .i64 z7, .int .i64 x, .int .i64 (x + d9)] 37) ∧ w4.heap[B]? = some (.cells #[.int .i64 id, .int .i64 127, .int .i64 co, .int .i64 se, .slice va k vc] 26) ∧ w4.heap[w.heap.size]? = some (Tn.trB ⟨0, 0, 0, 0⟩ none 0 0 26)) := by
            intro w4 G
            have xS2 := heap_old (h_set (i := 2) xS1 (.int .i64 (x + d9))) (.cells #[.int .i64 z7, .int .i64 x, .int .i64 (x + d9)] 37)
            have mB2 := heap_old (h_other (i := 2) mB1 hBS (.int .i64 (x + d9))) (.cells #[.int .i64 z7, .int .i64 x, .int .i64 (x + d9)] 37)
            have mR2 := heap_old (h_other (i := 2) mR1 (by omega : w.heap.size ≠ S) (.int .i64 (x + d9))) (.cells #[.int .i64 z7, .int .i64 x, .int .i64 (x + d9)] 37)
            refine ⟨((C1.set S 2 _ hSc (by omega)).alloc _).grown G oc (fun b hb => by have := (HOL.out b hb).1; omega), ((K1.set S 2 _ (by omega)).alloc _).grown G (fun b hb => (HOL.out b hb).1), ?_, ?_, ?_⟩
            · exact (G.block S (lt_of xS2) (fun h => oS h.symm)).trans xS2
            · exact (G.block B (lt_of mB2) (fun h => oB h.symm)).trans mB2
            · exact (G.block w.heap.size (lt_of mR2) (fun h => oR h.symm)).trans mR2
          have O2 := own_other O1 oS 2 (.int .i64 (x + d9))
          have hbase : w.heap.size ≤ v1.heap.size := K1.size
          have HMV : Hid (_ ∧ _) := ⟨hx0, hx1⟩
          clear O1 K1 C1 mB1 mR1 xS1 HOL oS oB oR
          go_wp2_with (at_builtin; refine wpList_append_own _ rfl _ _ 24 rfl w.heap.size 37 i0 (.agg #[.int .i64 0, .int .i64 0, .int .i64 0]) 3 24 Try.underlying24 hi hz0 hz1 hz2 rfl (by decide) _ _ _ rfl (O2.alloc _) ⟨v1.heap.size, 0, none⟩ 1 1 [.int .i64 z7, .int .i64 x, .int .i64 (x + d9)] rfl rfl ?c1 ?c2 ?c3 ?c4 ?c5 ?_)
          case c1 => intro j u h; have h9 := new3 (v1.setCell ⟨S, 2, none⟩ (.int .i64 (x + d9))) 37 _ _ _ j u h; rw [World.size_setCell] at h9; exact h9
          case c2 => intro u hu; simp at hu; rcases hu with rfl | rfl | rfl <;> rfl
          case c3 => unfold maxLen; have := HKM.out; omega
          case c4 => have := HKM.out; omega
          case c5 => simp; omega
          intro v4 w4 hown4 hgrow _
          obtain ⟨C4, K4, xS4, mB4, mR4⟩ := HX.out w4 hgrow
          rw [scells_snoc l ⟨z7, x, x + d9⟩] at hown4
          have oB4 := Pk.own_ne' hown4 mB4 (by decide)
          obtain ⟨ua, uc, rfl, -⟩ := own_form hown4
          have q4 : w4.cell? ⟨B, 4, none⟩ = some (.slice va k vc) := cell_at mB4 4
          have h4 : w4.frozen? ⟨B, 4, none⟩ = false := frozen_at mB4 4
          have C5 := C4.set B 4 (.slice ua (k + 1) uc) hBc hBW
          have K5 := K4.set B 4 (.slice ua (k + 1) uc) (by omega)
          have mB5 := h_set (i := 4) mB4 (.slice ua (k + 1) uc)
          have mR5 := h_other (i := 4) mR4 hRB' (.slice ua (k + 1) uc)
          have xS5 := h_other (i := 4) xS4 hSB' (.slice ua (k + 1) uc)
          have O5 := own_other hown4 oB4 4 (.slice ua (k + 1) uc)
          have t2 : (w4.setCell ⟨B, 4, none⟩ (.slice ua (k + 1) uc)).cell? ⟨S, 2, none⟩ = some (.int .i64 (x + d9)) := cell_at xS5 2
          clear HX hgrow C4 K4 xS4 mB4 mR4 hown4 oB4 O2 s0 s1 s2 g2 b4
          go_wp2
          clear q4 h4
          generalize w4.setCell ⟨B, 4, none⟩ (.slice ua (k + 1) uc) = V5 at *
          have HBL : Hid (∀ wx, Is W0 a n cap c wx → Calls Try.prog 69 #[.pointer (some ⟨c, 0, none⟩), .int .i64 120] wx fun e w' => (∃ x : Int, e = .returned (.int .i64 x) ∧ 0 ≤ x ∧ (0 < (120 : Int) → x < 120)) ∧ Is W0 a n cap c w' ∧ Moved c wx w') := fun wx h => below_any h 120
          have hw1 : IntKind.i64.wrap (x + d9 + 1) = x + d9 + 1 := by rw [IntKind.wrap_i64]; omega
          go_region_held3 (fun w' => w'.cell? ⟨S, 2, none⟩ = some (.int .i64 (x + d9))) (go_keep) (first
            | (go_at_call 69; refine (HBL.out _ ?_).mono ?_; (first | exact C5 | exact C5.drewN 1); rintro e v6 ⟨⟨y9, rfl, hp0, hp1⟩, C6, M6⟩; have hp2 := hp1 (by omega); have xS6 : v6.heap[S]? = _ := (M6.block _ hSc).trans xS5; have mR6 : v6.heap[w.heap.size]? = _ := (M6.block _ hRc).trans mR5; have mB6 : v6.heap[B]? = _ := (M6.block _ hBc).trans mB5; have O6 : v6.ownsRow w.heap.size 37 3 (.slice ua (k + 1) uc) (k + 1) (scells (l ++ [⟨z7, x, x + d9⟩])) := Cur.owns_moved O5 ⟨M6.size, M6.block⟩ hcw; have K6 : Kb c w v6 := K5.trans (Kb.moved ⟨M6.size, M6.block⟩); have t6 : v6.cell? ⟨S, 2, none⟩ = some (.int .i64 (x + d9)) := cell_at xS6 2; have hw2 : IntKind.i64.wrap (x + d9 + 1 + y9) = x + d9 + 1 + y9 := (by rw [IntKind.wrap_i64]; omega)))
          all_goals
            clear hp1
            go_wp2
            go_roundw
            case rel => exact ⟨k + 1, x + d9 + 1 + y9, y + 1, l ++ [⟨z7, x, x + d9⟩], ua, uc, HKM.out, by go_num, rfl, rfl, by omega, by omega, by omega, by omega, by rw [List.length_append, hlk]; rfl, C6, K6, mR6, mB6, O6⟩
            case measure => have := HKM.out; simp [intOf]; omega
        · obtain rfl : k = m + 2 := by omega
          have hkd : decide (((m + 2 : Nat) : Int) < 2 + (m : Int)) = false := decide_eq_false (by omega)
          have HLN : Hid (l.length = m + 2) := hlk
          have oR := Pk.own_ne' Or mRr (by decide)
          clear hkm hlk
          have b0 : wr.cell? ⟨B, 0, none⟩ = some (.int .i64 id) := cell_at mBr 0
          have b1 : wr.cell? ⟨B, 1, none⟩ = some (.int .i64 127) := cell_at mBr 1
          have b2 : wr.cell? ⟨B, 2, none⟩ = some (.int .i64 co) := cell_at mBr 2
          have b3 : wr.cell? ⟨B, 3, none⟩ = some (.int .i64 se) := cell_at mBr 3
          have b4 : wr.cell? ⟨B, 4, none⟩ = some (.slice va (m + 2) vc) := cell_at mBr 4
          have z0 : wr.cell? ⟨w.heap.size, 0, none⟩ = some (.int .i64 0) := cell_at mRr 0
          have z1 : wr.cell? ⟨w.heap.size, 1, none⟩ = some (.int .i64 0) := cell_at mRr 1
          have z2 : wr.cell? ⟨w.heap.size, 2, none⟩ = some (.int .i64 0) := cell_at mRr 2
          have z3 : wr.cell? ⟨w.heap.size, 3, none⟩ = some (.int .i64 0) := cell_at mRr 3
          have z4 : wr.cell? ⟨w.heap.size, 4, none⟩ = some (.slice none 0 0) := cell_at mRr 4
          have y0 : wr.frozen? ⟨w.heap.size, 0, none⟩ = false := frozen_at mRr 0
          have y1 : wr.frozen? ⟨w.heap.size, 1, none⟩ = false := frozen_at mRr 1
          have y2 : wr.frozen? ⟨w.heap.size, 2, none⟩ = false := frozen_at mRr 2
          have y3 : wr.frozen? ⟨w.heap.size, 3, none⟩ = false := frozen_at mRr 3
          have y4 : wr.frozen? ⟨w.heap.size, 4, none⟩ = false := frozen_at mRr 4
          have HOF : Hid (∀ i u, _) := fun i u => own_other (own_other (own_other (own_other (own_other Or oR 0 (.int .i64 id)) oR 1 (.int .i64 127)) oR 2 (.int .i64 co)) oR 3 (.int .i64 se)) oR i u
          have HCF : Hid (∀ i u, _) := fun i u => ((((Cr.set w.heap.size 0 (.int .i64 id) hRc hW0).set w.heap.size 1 (.int .i64 127) hRc hW0).set w.heap.size 2 (.int .i64 co) hRc hW0).set w.heap.size 3 (.int .i64 se) hRc hW0).set w.heap.size i u hRc hW0
          have HKF : Hid (∀ i u, _) := fun i u => ((((Kr.set w.heap.size 0 (.int .i64 id) (Nat.le_refl _)).set w.heap.size 1 (.int .i64 127) (Nat.le_refl _)).set w.heap.size 2 (.int .i64 co) (Nat.le_refl _)).set w.heap.size 3 (.int .i64 se) (Nat.le_refl _)).set w.heap.size i u (Nat.le_refl _)
          clear Or oR Cr Kr mRr mBr
          go_wp2
          refine bodyPost_ret (v := trV ⟨id, 127, co, se⟩ va (m + 2) vc) (by simp [results, Try.results114, go_sem, z0, z1, z2, z3, z4]) rfl ?_
          refine ⟨⟨⟨id, 127, co, se⟩, l, va, vc, by rw [HLN.out], rfl, ?_, by rw [HLN.out]; omega, by rw [HLN.out]; omega, HBD.out⟩, HCF.out 4 _, HKF.out 4 _⟩
          rw [HLN.out]
          exact HOF.out 4 _
    · have v2 : w7.cell? ⟨B, 2, none⟩ = some (.int .i64 co) := cell_at mB7 2
      have f2 : w7.frozen? ⟨B, 2, none⟩ = false := frozen_at mB7 2
      have v3 : w7.cell? ⟨B, 3, none⟩ = some (.int .i64 se) := cell_at mB7 3
      have f3 : w7.frozen? ⟨B, 3, none⟩ = false := frozen_at mB7 3
      go_wp2_with fail
      refine named fun W8 hW8 => ?_
      have CA : Is W0 a n cap c W8 := by rw [hW8]; exact (C7.set _ _ _ hBc hBW).set _ _ _ hBc hBW
      have mB : W8.heap[B]? = some (.cells #[.int .i64 id, .int .i64 127, .int .i64 0, .int .i64 0, .slice none 0 0] 26) := by rw [hW8]; exact h_set (h_set mB7 _) _
      have mR : W8.heap[w.heap.size]? = some (Tn.trB ⟨0, 0, 0, 0⟩ none 0 0 26) := by rw [hW8]; exact h_other (h_other mR7 (by omega) _) (by omega) _
      have KA : Kb c w W8 := by rw [hW8]; exact (K7.set _ _ _ (by omega)).set _ _ _ (by omega)
      clear hW8 C7 mB7 mR7 K7
      have hB := lt_of mB
      have hR := lt_of mR
      go_wp2_with fail
      refine (below_any CA _).mono ?_
      rintro e u1 ⟨⟨at0, rfl, ha0, ha1⟩, C1, M1⟩
      go_wp2_with fail
      refine (below_any C1 _).mono ?_
      rintro e u2 ⟨⟨st0, rfl, hs0, hs1⟩, C2, M2⟩
      go_wp2_with fail
      refine (below_any C2 _).mono ?_
      rintro e u3 ⟨⟨nn, rfl, hn0, hn1⟩, C3, M3⟩
      have ha2 := ha1 (by omega)
      have hs2 := hs1 (by omega)
      have hn2 := hn1 (by omega)
      clear ha1 hs1 hn1
      have MV := (M1.trans M2).trans M3
      have mB3 := (MV.block _ hBc).trans mB
      have mR3 := (MV.block _ hRc).trans mR
      have KA3 := KA.trans (Kb.moved MV)
      clear M1 M2 M3 MV C1 C2 CA mB mR KA
      obtain ⟨m, rfl⟩ : ∃ m : Nat, nn = m := ⟨nn.toNat, by omega⟩
      have hRB' : w.heap.size ≠ B := by omega
      go_wp2
      go_loopw [6, 7, 9] (fun t s i wr => ∃ (k : Nat) (x y : Int) (l : List St) (va : Option Addr) (vc : Nat), k ≤ m + 2 ∧ i = .int .i64 k ∧ t = .int .i64 x ∧ s = .int .i64 y ∧ 0 ≤ x ∧ x ≤ 900 + 128 * (k : Int) ∧ 0 ≤ y ∧ y ≤ 100 + (k : Int) ∧ l.length = k ∧ Is W0 a n cap c wr ∧ Kb c w wr ∧ wr.heap[w.heap.size]? = some (Tn.trB ⟨0, 0, 0, 0⟩ none 0 0 26) ∧ wr.heap[B]? = some (.cells #[.int .i64 id, .int .i64 127, .int .i64 0, .int .i64 0, .slice va k vc] 26) ∧ wr.ownsRow w.heap.size 37 3 (.slice va k vc) k (scells l)) (fun _ _ i _ => m + 2 - (intOf i).toNat)
      case atStart => exact ⟨0, at0, st0, [], none, 0, by omega, rfl, rfl, rfl, ha0, by omega, hs0, by omega, rfl, C3, KA3, mR3, mB3, ⟨rfl, Or.inl ⟨rfl, rfl⟩⟩⟩
      case round =>
        obtain ⟨k, x, y, l, va, vc, hk, rfl, rfl, rfl, hx0, hx1, hy0, hy1, hlk, Cr, Kr, mRr, mBr, Or⟩ := hrel
        clear C3 KA3 mR3 mB3
        by_cases hkm : k < m + 2
        · have hkd : decide ((k : Int) < 2 + (m : Int)) = true := decide_eq_true (by omega)
          have HKM : Hid (_) := hkm
          clear hkm
          go_wp2_with fail
          refine named fun WS hWS => ?_
          obtain ⟨z7, xS⟩ : ∃ z7 : Int, WS.heap[wr.heap.size]? = some (.cells #[.int .i64 z7, .int .i64 x, .int .i64 0] 37) := ⟨_, by rw [hWS]; exact heap_new _ _⟩
          have CS : Is W0 a n cap c WS := by rw [hWS]; exact Cr.alloc _
          have LS : Below wr.heap.size wr WS := by rw [hWS]; exact new_below _ _
          have mRS := kept LS (lt_of mRr) mRr
          have mBS := kept LS (lt_of mBr) mBr
          have OS := own_below Or LS (Nat.le_refl _)
          have KS := Kr.trans (Kb.of c LS)
          have hSc : wr.heap.size ≠ c := by have := Cr.lt; omega
          have HOL : Hid (∀ b, (Value.slice va k vc).ownBlock = some b → w.heap.size ≤ b ∧ b < wr.heap.size) := fun b hb => Or.lt b hb
          have hSB : B < wr.heap.size := lt_of mBr
          have hSw : w.heap.size < wr.heap.size := lt_of mRr
          clear hWS Cr LS mRr mBr Or Kr
          generalize wr.heap.size = S at *
          refine (below_any CS _).mono ?_
          rintro e v1 ⟨⟨d9, rfl, hd0, hd1⟩, C1, M1⟩
          have hd2 := hd1 (by omega)
          have xS1 := (M1.block _ hSc).trans xS
          have mR1 := (M1.block _ hRc).trans mRS
          have mB1 := (M1.block _ hBc).trans mBS
          have O1 := Cur.owns_moved OS M1 hcw
          have K1 := KS.trans (Kb.moved M1)
          clear CS M1 xS mRS mBS OS KS hd1
          have s0 : v1.cell? ⟨S, 0, none⟩ = some (.int .i64 z7) := cell_at xS1 0
          have s1 : v1.cell? ⟨S, 1, none⟩ = some (.int .i64 x) := cell_at xS1 1
          have s2 : v1.cell? ⟨S, 2, none⟩ = some (.int .i64 0) := cell_at xS1 2
          have g2 : v1.frozen? ⟨S, 2, none⟩ = false := frozen_at xS1 2
          have b4 : v1.cell? ⟨B, 4, none⟩ = some (.slice va k vc) := cell_at mB1 4
          have oS : (Value.slice va k vc).ownBlock ≠ some S := fun h => by have := (HOL.out S h).2; omega
          have oB := Pk.own_ne' O1 mB1 (by decide)
          have oR := Pk.own_ne' O1 mR1 (by decide)
          have oc : (Value.slice va k vc).ownBlock ≠ some c := fun h => by have := (HOL.out c h).1; omega
          have hBS : B ≠ S := by omega
          have hSB' : S ≠ B := by omega
          have HX : Hid (∀ w4, ((v1.setCell ⟨S, 2, none⟩ (.int .i64 (x + d9))).alloc (.cells #[.int .i64 z7, .int .i64 x, .int .i64 (x + d9)] 37)).grownBy w4 (Value.slice va k vc).ownBlock → Is W0 a n cap c w4 ∧ Kb c w w4 ∧ w4.heap[S]? = some (.cells #[.int .i64 z7, .int .i64 x, .int .i64 (x + d9)] 37) ∧ w4.heap[B]? = some (.cells #[.int .i64 id, .int .i64 127, .int .i64 0, .int .i64 0, .slice va k vc] 26) ∧ w4.heap[w.heap.size]? = some (Tn.trB ⟨0, 0, 0, 0⟩ none 0 0 26)) := by
            intro w4 G
            have xS2 := heap_old (h_set (i := 2) xS1 (.int .i64 (x + d9))) (.cells #[.int .i64 z7, .int .i64 x, .int .i64 (x + d9)] 37)
            have mB2 := heap_old (h_other (i := 2) mB1 hBS (.int .i64 (x + d9))) (.cells #[.int .i64 z7, .int .i64 x, .int .i64 (x + d9)] 37)
            have mR2 := heap_old (h_other (i := 2) mR1 (by omega : w.heap.size ≠ S) (.int .i64 (x + d9))) (.cells #[.int .i64 z7, .int .i64 x, .int .i64 (x + d9)] 37)
            refine ⟨((C1.set S 2 _ hSc (by omega)).alloc _).grown G oc (fun b hb => by have := (HOL.out b hb).1; omega), ((K1.set S 2 _ (by omega)).alloc _).grown G (fun b hb => (HOL.out b hb).1), ?_, ?_, ?_⟩
            · exact (G.block S (lt_of xS2) (fun h => oS h.symm)).trans xS2
            · exact (G.block B (lt_of mB2) (fun h => oB h.symm)).trans mB2
            · exact (G.block w.heap.size (lt_of mR2) (fun h => oR h.symm)).trans mR2
          have O2 := own_other O1 oS 2 (.int .i64 (x + d9))
          have hbase : w.heap.size ≤ v1.heap.size := K1.size
          have HMV : Hid (_ ∧ _) := ⟨hx0, hx1⟩
          clear O1 K1 C1 mB1 mR1 xS1 HOL oS oB oR
          go_wp2_with (at_builtin; refine wpList_append_own _ rfl _ _ 24 rfl w.heap.size 37 i0 (.agg #[.int .i64 0, .int .i64 0, .int .i64 0]) 3 24 Try.underlying24 hi hz0 hz1 hz2 rfl (by decide) _ _ _ rfl (O2.alloc _) ⟨v1.heap.size, 0, none⟩ 1 1 [.int .i64 z7, .int .i64 x, .int .i64 (x + d9)] rfl rfl ?c1 ?c2 ?c3 ?c4 ?c5 ?_)
          case c1 => intro j u h; have h9 := new3 (v1.setCell ⟨S, 2, none⟩ (.int .i64 (x + d9))) 37 _ _ _ j u h; rw [World.size_setCell] at h9; exact h9
          case c2 => intro u hu; simp at hu; rcases hu with rfl | rfl | rfl <;> rfl
          case c3 => unfold maxLen; have := HKM.out; omega
          case c4 => have := HKM.out; omega
          case c5 => simp; omega
          intro v4 w4 hown4 hgrow _
          obtain ⟨C4, K4, xS4, mB4, mR4⟩ := HX.out w4 hgrow
          rw [scells_snoc l ⟨z7, x, x + d9⟩] at hown4
          have oB4 := Pk.own_ne' hown4 mB4 (by decide)
          obtain ⟨ua, uc, rfl, -⟩ := own_form hown4
          have q4 : w4.cell? ⟨B, 4, none⟩ = some (.slice va k vc) := cell_at mB4 4
          have h4 : w4.frozen? ⟨B, 4, none⟩ = false := frozen_at mB4 4
          have C5 := C4.set B 4 (.slice ua (k + 1) uc) hBc hBW
          have K5 := K4.set B 4 (.slice ua (k + 1) uc) (by omega)
          have mB5 := h_set (i := 4) mB4 (.slice ua (k + 1) uc)
          have mR5 := h_other (i := 4) mR4 hRB' (.slice ua (k + 1) uc)
          have xS5 := h_other (i := 4) xS4 hSB' (.slice ua (k + 1) uc)
          have O5 := own_other hown4 oB4 4 (.slice ua (k + 1) uc)
          have t2 : (w4.setCell ⟨B, 4, none⟩ (.slice ua (k + 1) uc)).cell? ⟨S, 2, none⟩ = some (.int .i64 (x + d9)) := cell_at xS5 2
          clear HX hgrow C4 K4 xS4 mB4 mR4 hown4 oB4 O2 s0 s1 s2 g2 b4
          go_wp2
          clear q4 h4
          generalize w4.setCell ⟨B, 4, none⟩ (.slice ua (k + 1) uc) = V5 at *
          have HBL : Hid (∀ wx, Is W0 a n cap c wx → Calls Try.prog 69 #[.pointer (some ⟨c, 0, none⟩), .int .i64 120] wx fun e w' => (∃ x : Int, e = .returned (.int .i64 x) ∧ 0 ≤ x ∧ (0 < (120 : Int) → x < 120)) ∧ Is W0 a n cap c w' ∧ Moved c wx w') := fun wx h => below_any h 120
          have hw1 : IntKind.i64.wrap (x + d9 + 1) = x + d9 + 1 := by rw [IntKind.wrap_i64]; omega
          go_region_held3 (fun w' => w'.cell? ⟨S, 2, none⟩ = some (.int .i64 (x + d9))) (go_keep) (first
            | (go_at_call 69; refine (HBL.out _ ?_).mono ?_; (first | exact C5 | exact C5.drewN 1); rintro e v6 ⟨⟨y9, rfl, hp0, hp1⟩, C6, M6⟩; have hp2 := hp1 (by omega); have xS6 : v6.heap[S]? = _ := (M6.block _ hSc).trans xS5; have mR6 : v6.heap[w.heap.size]? = _ := (M6.block _ hRc).trans mR5; have mB6 : v6.heap[B]? = _ := (M6.block _ hBc).trans mB5; have O6 : v6.ownsRow w.heap.size 37 3 (.slice ua (k + 1) uc) (k + 1) (scells (l ++ [⟨z7, x, x + d9⟩])) := Cur.owns_moved O5 ⟨M6.size, M6.block⟩ hcw; have K6 : Kb c w v6 := K5.trans (Kb.moved ⟨M6.size, M6.block⟩); have t6 : v6.cell? ⟨S, 2, none⟩ = some (.int .i64 (x + d9)) := cell_at xS6 2; have hw2 : IntKind.i64.wrap (x + d9 + 1 + y9) = x + d9 + 1 + y9 := (by rw [IntKind.wrap_i64]; omega)))
          all_goals
            clear hp1
            go_wp2
            go_roundw
            case rel => exact ⟨k + 1, x + d9 + 1 + y9, y + 1, l ++ [⟨z7, x, x + d9⟩], ua, uc, HKM.out, by go_num, rfl, rfl, by omega, by omega, by omega, by omega, by rw [List.length_append, hlk]; rfl, C6, K6, mR6, mB6, O6⟩
            case measure => have := HKM.out; simp [intOf]; omega
        · obtain rfl : k = m + 2 := by omega
          have hkd : decide (((m + 2 : Nat) : Int) < 2 + (m : Int)) = false := decide_eq_false (by omega)
          have HLN : Hid (l.length = m + 2) := hlk
          have oR := Pk.own_ne' Or mRr (by decide)
          clear hkm hlk
          have b0 : wr.cell? ⟨B, 0, none⟩ = some (.int .i64 id) := cell_at mBr 0
          have b1 : wr.cell? ⟨B, 1, none⟩ = some (.int .i64 127) := cell_at mBr 1
          have b2 : wr.cell? ⟨B, 2, none⟩ = some (.int .i64 0) := cell_at mBr 2
          have b3 : wr.cell? ⟨B, 3, none⟩ = some (.int .i64 0) := cell_at mBr 3
          have b4 : wr.cell? ⟨B, 4, none⟩ = some (.slice va (m + 2) vc) := cell_at mBr 4
          have z0 : wr.cell? ⟨w.heap.size, 0, none⟩ = some (.int .i64 0) := cell_at mRr 0
          have z1 : wr.cell? ⟨w.heap.size, 1, none⟩ = some (.int .i64 0) := cell_at mRr 1
          have z2 : wr.cell? ⟨w.heap.size, 2, none⟩ = some (.int .i64 0) := cell_at mRr 2
          have z3 : wr.cell? ⟨w.heap.size, 3, none⟩ = some (.int .i64 0) := cell_at mRr 3
          have z4 : wr.cell? ⟨w.heap.size, 4, none⟩ = some (.slice none 0 0) := cell_at mRr 4
          have y0 : wr.frozen? ⟨w.heap.size, 0, none⟩ = false := frozen_at mRr 0
          have y1 : wr.frozen? ⟨w.heap.size, 1, none⟩ = false := frozen_at mRr 1
          have y2 : wr.frozen? ⟨w.heap.size, 2, none⟩ = false := frozen_at mRr 2
          have y3 : wr.frozen? ⟨w.heap.size, 3, none⟩ = false := frozen_at mRr 3
          have y4 : wr.frozen? ⟨w.heap.size, 4, none⟩ = false := frozen_at mRr 4
          have HOF : Hid (∀ i u, _) := fun i u => own_other (own_other (own_other (own_other (own_other Or oR 0 (.int .i64 id)) oR 1 (.int .i64 127)) oR 2 (.int .i64 0)) oR 3 (.int .i64 0)) oR i u
          have HCF : Hid (∀ i u, _) := fun i u => ((((Cr.set w.heap.size 0 (.int .i64 id) hRc hW0).set w.heap.size 1 (.int .i64 127) hRc hW0).set w.heap.size 2 (.int .i64 0) hRc hW0).set w.heap.size 3 (.int .i64 0) hRc hW0).set w.heap.size i u hRc hW0
          have HKF : Hid (∀ i u, _) := fun i u => ((((Kr.set w.heap.size 0 (.int .i64 id) (Nat.le_refl _)).set w.heap.size 1 (.int .i64 127) (Nat.le_refl _)).set w.heap.size 2 (.int .i64 0) (Nat.le_refl _)).set w.heap.size 3 (.int .i64 0) (Nat.le_refl _)).set w.heap.size i u (Nat.le_refl _)
          clear Or oR Cr Kr mRr mBr
          go_wp2
          refine bodyPost_ret (v := trV ⟨id, 127, 0, 0⟩ va (m + 2) vc) (by simp [results, Try.results114, go_sem, z0, z1, z2, z3, z4]) rfl ?_
          refine ⟨⟨⟨id, 127, 0, 0⟩, l, va, vc, by rw [HLN.out], rfl, ?_, by rw [HLN.out]; omega, by rw [HLN.out]; omega, Or.inl ⟨rfl, rfl⟩⟩, HCF.out 4 _, HKF.out 4 _⟩
          rw [HLN.out]
          exact HOF.out 4 _

end Tn
end Go.Proofs.Ytiollklighmojad
