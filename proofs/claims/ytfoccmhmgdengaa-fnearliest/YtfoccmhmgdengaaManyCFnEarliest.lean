/- Texts laid into one, in their order: CurTn, CurTn2, CurTn3, CurTn4, CurTn5, CurKb, CurEa, CurEl, TnRidesI. -/
import Derived.Test.YtfoccmhmgdengaaManyBFnEarliest
import Derived.Test.YtfoccmhmgdengaaTnFind
import Derived.Deep.RegionHeld3
import Derived.BigRegion
import Derived.Deep.Cut
/- Draws for the laws of trains: a train. -/
namespace Go.Proofs.Ytfoccmhmgdengaa
namespace Tn
open Go.ChangeShapes Go.WideShapes Go.ChangeAt Go.RowKit
open Pk (new_below join_below cell_at heap_new frozen_at lt_of kept heap_old info_of own_form own_below Room)
open Cur (Is Moved Bytes Kb new_any once_any below_any pickInt_any rowOf_new)
set_option linter.unusedSimpArgs false
set_option linter.unusedVariables false

theorem own_kb {c base e size : Nat} {w w1 : World} {v : Value} {n : Nat} {xs : List Value} (h : w.ownsRow base e size v n xs) (K : Kb c w w1) (hc : v.ownBlock ≠ some c) : w1.ownsRow base e size v n xs := by
  obtain ⟨h1, h2⟩ := h
  refine ⟨h1, ?_⟩
  rcases h2 with h2 | ⟨g, cap, cur, hv, hg, hh, hr⟩
  · exact Or.inl h2
  · exact Or.inr ⟨g, cap, cur, hv, hg, by rw [K.block g (lt_of hh) (by intro e; apply hc; rw [hv, e]; rfl)]; exact hh, hr⟩

theorem new3 (w : World) (t : TypeId) (a b c : Value) : ∀ j u, [a, b, c][j]? = some u → (w.alloc (.cells #[a, b, c] t)).cell? (Addr.add ⟨w.heap.size, 0, none⟩ j) = some u := by
  intro j u h
  rw [show Addr.add ⟨w.heap.size, 0, none⟩ j = ⟨w.heap.size, j, none⟩ from by simp [Addr.add]; exact Eq.symm, cell_at (heap_new w _) j, ← h]
  simp

theorem scells_snoc (l : List St) (p : St) : scells l ++ [.int .i64 p.st, .int .i64 p.ar, .int .i64 p.dp] = scells (l ++ [p]) := by simp [scells]

theorem named_wp {P : Program} {c : Code} {Q : Exit → Act → World → Prop} {a : Act} {w : World} (h : ∀ W, W = w → Code.wp P c Q a W) : Code.wp P c Q a w := h w rfl

set_option maxRecDepth 100000 in
set_option maxHeartbeats 4000000 in
theorem train_any {W0 : World} {a : Option Addr} {n cap c : Nat} {w : World} (C : Is W0 a n cap c w) (id : Int) :
    Calls Try.prog 48 #[.pointer (some ⟨c, 0, none⟩), .int .i64 id] w fun e w' => (∃ (h : Hd) (l : List St) (va : Option Addr) (vc : Nat), e = .returned (trV h va l.length vc) ∧ h.id = id ∧ w'.ownsRow w.heap.size 42 3 (.slice va l.length vc) l.length (scells l) ∧ 2 ≤ l.length ∧ l.length ≤ 5) ∧ Is W0 a n cap c w' ∧ Kb c w w' := by
  obtain ⟨i0, hi, hz0, hz1, hz2⟩ := info_of info_stop'
  have mR0 := heap_new w (Tn.trB ⟨0, 0, 0, 0⟩ none 0 0 33)
  have C0 := C.alloc (Tn.trB ⟨0, 0, 0, 0⟩ none 0 0 33)
  have hcw := C.lt
  have hW0 : W0.heap.size ≤ w.heap.size := C.below.size
  have K0 : Kb c w (w.alloc (Tn.trB ⟨0, 0, 0, 0⟩ none 0 0 33)) := (Kb.refl c w).alloc _
  have hRc : w.heap.size ≠ c := by omega
  go_enter Try.func48, Try.ntmps48
  go_wp2_with fail
  refine (below_any C0 _).mono ?_
  rintro e w1 ⟨⟨x1, rfl, hx1, hy1⟩, C1, M1⟩
  have hx2 := hy1 (by omega)
  go_wp2_with fail
  refine (below_any C1 _).mono ?_
  rintro e w2 ⟨⟨x2, rfl, hx3, hy2⟩, C2, M2⟩
  have hx4 := hy2 (by omega)
  go_wp2_with fail
  refine (below_any C2 _).mono ?_
  rintro e w3 ⟨⟨x3, rfl, hx5, hy3⟩, C3, M3⟩
  have hx6 := hy3 (by omega)
  have MV := (M1.trans M2).trans M3
  have mR3 := (MV.block _ hRc).trans mR0
  have K3 := K0.trans (Kb.moved MV)
  clear hy1 hy2 hy3 M1 M2 M3 MV C1 C2 C0 mR0 K0 C
  have C4 := C3.alloc (.cells #[.int .i64 id, .int .i64 (1 + x1), .int .i64 (1 + x2), .int .i64 (1 + x3), .slice none 0 0] 33)
  have mB4 := heap_new w3 (.cells #[.int .i64 id, .int .i64 (1 + x1), .int .i64 (1 + x2), .int .i64 (1 + x3), .slice none 0 0] 33)
  have mR4 := heap_old mR3 (.cells #[.int .i64 id, .int .i64 (1 + x1), .int .i64 (1 + x2), .int .i64 (1 + x3), .slice none 0 0] 33)
  have K4 := K3.alloc (.cells #[.int .i64 id, .int .i64 (1 + x1), .int .i64 (1 + x2), .int .i64 (1 + x3), .slice none 0 0] 33)
  have hBc : w3.heap.size ≠ c := by have := C3.lt; omega
  have hRB : w.heap.size < w3.heap.size := lt_of mR3
  have hBW : W0.heap.size ≤ w3.heap.size := by omega
  clear C3 mR3 K3
  go_wp2_with fail
  refine (once_any C4 _).mono ?_
  rintro e w5 ⟨⟨t1, rfl⟩, C5, M5⟩
  have mB5 := (M5.block _ hBc).trans mB4
  have mR5 := (M5.block _ hRc).trans mR4
  have K5 := K4.trans (Kb.moved M5)
  clear C4 mB4 mR4 K4 M5
  generalize w3.heap.size = B at *
  generalize (1 + x1) = dy at *
  generalize (1 + x2) = co at *
  generalize (1 + x3) = se at *
  clear hx1 hx2 hx3 hx4 hx5 hx6
  cases t1
  · go_wp2_with fail
    refine named fun W6 hW6 => ?_
    have C6 : Is W0 a n cap c W6 := by rw [hW6]; exact C5
    have mB6 : W6.heap[B]? = some (.cells #[.int .i64 id, .int .i64 dy, .int .i64 co, .int .i64 se, .slice none 0 0] 33) := by rw [hW6]; exact mB5
    have mR6 : W6.heap[w.heap.size]? = some (Tn.trB ⟨0, 0, 0, 0⟩ none 0 0 33) := by rw [hW6]; exact mR5
    have K6 : Kb c w W6 := by rw [hW6]; exact K5
    clear hW6 C5 mB5 mR5 K5
    refine (once_any C6 _).mono ?_
    rintro e w7 ⟨⟨t2, rfl⟩, C7, M7⟩
    have mB7 := (M7.block _ hBc).trans mB6
    have mR7 := (M7.block _ hRc).trans mR6
    have K7 := K6.trans (Kb.moved M7)
    clear C6 mB6 mR6 K6 M7
    cases t2
    · go_wp2_with fail
      refine named fun W8 hW8 => ?_
      have CA : Is W0 a n cap c W8 := by rw [hW8]; exact C7
      have mB : W8.heap[B]? = some (.cells #[.int .i64 id, .int .i64 dy, .int .i64 co, .int .i64 se, .slice none 0 0] 33) := by rw [hW8]; exact mB7
      have mR : W8.heap[w.heap.size]? = some (Tn.trB ⟨0, 0, 0, 0⟩ none 0 0 33) := by rw [hW8]; exact mR7
      have KA : Kb c w W8 := by rw [hW8]; exact K7
      clear hW8 C7 mB7 mR7 K7
      have hB := lt_of mB
      have hR := lt_of mR
      go_wp2_with fail
      refine (below_any CA _).mono ?_
      rintro e u1 ⟨⟨at0, rfl, ha0, ha1⟩, C1, M1⟩
      go_wp2_with fail
      refine (below_any C1 _).mono ?_
      rintro e u2 ⟨⟨st0, rfl, hs0, hs1⟩, C2, M2⟩
      go_wp2_with fail
      refine (below_any C2 _).mono ?_
      rintro e u3 ⟨⟨nn, rfl, hn0, hn1⟩, C3, M3⟩
      have ha2 := ha1 (by omega)
      have hs2 := hs1 (by omega)
      have hn2 := hn1 (by omega)
      clear ha1 hs1 hn1
      have MV := (M1.trans M2).trans M3
      have mB3 := (MV.block _ hBc).trans mB
      have mR3 := (MV.block _ hRc).trans mR
      have KA3 := KA.trans (Kb.moved MV)
      clear M1 M2 M3 MV C1 C2 CA mB mR KA
      obtain ⟨m, rfl⟩ : ∃ m : Nat, nn = m := ⟨nn.toNat, by omega⟩
      have hRB' : w.heap.size ≠ B := by omega
      go_wp2
      go_loopw [6, 7, 9] (fun t s i wr => ∃ (k : Nat) (x y : Int) (l : List St) (va : Option Addr) (vc : Nat), k ≤ m + 2 ∧ i = .int .i64 k ∧ t = .int .i64 x ∧ s = .int .i64 y ∧ 0 ≤ x ∧ x ≤ 900 + 128 * (k : Int) ∧ 0 ≤ y ∧ y ≤ 100 + (k : Int) ∧ l.length = k ∧ Is W0 a n cap c wr ∧ Kb c w wr ∧ wr.heap[w.heap.size]? = some (Tn.trB ⟨0, 0, 0, 0⟩ none 0 0 33) ∧ wr.heap[B]? = some (.cells #[.int .i64 id, .int .i64 dy, .int .i64 co, .int .i64 se, .slice va k vc] 33) ∧ wr.ownsRow w.heap.size 42 3 (.slice va k vc) k (scells l)) (fun _ _ i _ => m + 2 - (intOf i).toNat)
      case atStart => exact ⟨0, at0, st0, [], none, 0, by omega, rfl, rfl, rfl, ha0, by omega, hs0, by omega, rfl, C3, KA3, mR3, mB3, ⟨rfl, Or.inl ⟨rfl, rfl⟩⟩⟩
      case round =>
        obtain ⟨k, x, y, l, va, vc, hk, rfl, rfl, rfl, hx0, hx1, hy0, hy1, hlk, Cr, Kr, mRr, mBr, Or⟩ := hrel
        clear C3 KA3 mR3 mB3
        by_cases hkm : k < m + 2
        · have hkd : decide ((k : Int) < 2 + (m : Int)) = true := decide_eq_true (by omega)
          have HKM : Hid (_) := hkm
          clear hkm
          go_wp2_with fail
          refine named fun WS hWS => ?_
          obtain ⟨z7, xS⟩ : ∃ z7 : Int, WS.heap[wr.heap.size]? = some (.cells #[.int .i64 z7, .int .i64 x, .int .i64 0] 42) := ⟨_, by rw [hWS]; exact heap_new _ _⟩
          have CS : Is W0 a n cap c WS := by rw [hWS]; exact Cr.alloc _
          have LS : Below wr.heap.size wr WS := by rw [hWS]; exact new_below _ _
          have mRS := kept LS (lt_of mRr) mRr
          have mBS := kept LS (lt_of mBr) mBr
          have OS := own_below Or LS (Nat.le_refl _)
          have KS := Kr.trans (Kb.of c LS)
          have hSc : wr.heap.size ≠ c := by have := Cr.lt; omega
          have HOL : Hid (∀ b, (Value.slice va k vc).ownBlock = some b → w.heap.size ≤ b ∧ b < wr.heap.size) := fun b hb => Or.lt b hb
          have hSB : B < wr.heap.size := lt_of mBr
          have hSw : w.heap.size < wr.heap.size := lt_of mRr
          clear hWS Cr LS mRr mBr Or Kr
          generalize wr.heap.size = S at *
          refine (below_any CS _).mono ?_
          rintro e v1 ⟨⟨d9, rfl, hd0, hd1⟩, C1, M1⟩
          have hd2 := hd1 (by omega)
          have xS1 := (M1.block _ hSc).trans xS
          have mR1 := (M1.block _ hRc).trans mRS
          have mB1 := (M1.block _ hBc).trans mBS
          have O1 := Cur.owns_moved OS M1 hcw
          have K1 := KS.trans (Kb.moved M1)
          clear CS M1 xS mRS mBS OS KS hd1
          have s0 : v1.cell? ⟨S, 0, none⟩ = some (.int .i64 z7) := cell_at xS1 0
          have s1 : v1.cell? ⟨S, 1, none⟩ = some (.int .i64 x) := cell_at xS1 1
          have s2 : v1.cell? ⟨S, 2, none⟩ = some (.int .i64 0) := cell_at xS1 2
          have g2 : v1.frozen? ⟨S, 2, none⟩ = false := frozen_at xS1 2
          have b4 : v1.cell? ⟨B, 4, none⟩ = some (.slice va k vc) := cell_at mB1 4
          have oS : (Value.slice va k vc).ownBlock ≠ some S := fun h => by have := (HOL.out S h).2; omega
          have oB := Pk.own_ne' O1 mB1 (by decide)
          have oR := Pk.own_ne' O1 mR1 (by decide)
          have oc : (Value.slice va k vc).ownBlock ≠ some c := fun h => by have := (HOL.out c h).1; omega
          have hBS : B ≠ S := by omega
          have hSB' : S ≠ B := by omega
          have HX : Hid (∀ w4, ((v1.setCell ⟨S, 2, none⟩ (.int .i64 (x + d9))).alloc (.cells #[.int .i64 z7, .int .i64 x, .int .i64 (x + d9)] 42)).grownBy w4 (Value.slice va k vc).ownBlock → Is W0 a n cap c w4 ∧ Kb c w w4 ∧ w4.heap[S]? = some (.cells #[.int .i64 z7, .int .i64 x, .int .i64 (x + d9)] 42) ∧ w4.heap[B]? = some (.cells #[.int .i64 id, .int .i64 dy, .int .i64 co, .int .i64 se, .slice va k vc] 33) ∧ w4.heap[w.heap.size]? = some (Tn.trB ⟨0, 0, 0, 0⟩ none 0 0 33)) := by
            intro w4 G
            have xS2 := heap_old (h_set (i := 2) xS1 (.int .i64 (x + d9))) (.cells #[.int .i64 z7, .int .i64 x, .int .i64 (x + d9)] 42)
            have mB2 := heap_old (h_other (i := 2) mB1 hBS (.int .i64 (x + d9))) (.cells #[.int .i64 z7, .int .i64 x, .int .i64 (x + d9)] 42)
            have mR2 := heap_old (h_other (i := 2) mR1 (by omega : w.heap.size ≠ S) (.int .i64 (x + d9))) (.cells #[.int .i64 z7, .int .i64 x, .int .i64 (x + d9)] 42)
            refine ⟨((C1.set S 2 _ hSc (by omega)).alloc _).grown G oc (fun b hb => by have := (HOL.out b hb).1; omega), ((K1.set S 2 _ (by omega)).alloc _).grown G (fun b hb => (HOL.out b hb).1), ?_, ?_, ?_⟩
            · exact (G.block S (lt_of xS2) (fun h => oS h.symm)).trans xS2
            · exact (G.block B (lt_of mB2) (fun h => oB h.symm)).trans mB2
            · exact (G.block w.heap.size (lt_of mR2) (fun h => oR h.symm)).trans mR2
          have O2 := own_other O1 oS 2 (.int .i64 (x + d9))
          have hbase : w.heap.size ≤ v1.heap.size := K1.size
          have HMV : Hid (_ ∧ _) := ⟨hx0, hx1⟩
          clear O1 K1 C1 mB1 mR1 xS1 HOL oS oB oR
          go_wp2_with (at_builtin; refine wpList_append_own _ rfl _ _ 31 rfl w.heap.size 42 i0 (.agg #[.int .i64 0, .int .i64 0, .int .i64 0]) 3 24 Try.underlying31 hi hz0 hz1 hz2 rfl (by decide) _ _ _ rfl (O2.alloc _) ⟨v1.heap.size, 0, none⟩ 1 1 [.int .i64 z7, .int .i64 x, .int .i64 (x + d9)] rfl rfl ?c1 ?c2 ?c3 ?c4 ?c5 ?_)
          case c1 => intro j u h; have h9 := new3 (v1.setCell ⟨S, 2, none⟩ (.int .i64 (x + d9))) 42 _ _ _ j u h; rw [World.size_setCell] at h9; exact h9
          case c2 => intro u hu; simp at hu; rcases hu with rfl | rfl | rfl <;> rfl
          case c3 => unfold maxLen; have := HKM.out; omega
          case c4 => have := HKM.out; omega
          case c5 => simp; omega
          intro v4 w4 hown4 hgrow _
          obtain ⟨C4, K4, xS4, mB4, mR4⟩ := HX.out w4 hgrow
          rw [scells_snoc l ⟨z7, x, x + d9⟩] at hown4
          have oB4 := Pk.own_ne' hown4 mB4 (by decide)
          obtain ⟨ua, uc, rfl, -⟩ := own_form hown4
          have q4 : w4.cell? ⟨B, 4, none⟩ = some (.slice va k vc) := cell_at mB4 4
          have h4 : w4.frozen? ⟨B, 4, none⟩ = false := frozen_at mB4 4
          have C5 := C4.set B 4 (.slice ua (k + 1) uc) hBc hBW
          have K5 := K4.set B 4 (.slice ua (k + 1) uc) (by omega)
          have mB5 := h_set (i := 4) mB4 (.slice ua (k + 1) uc)
          have mR5 := h_other (i := 4) mR4 hRB' (.slice ua (k + 1) uc)
          have xS5 := h_other (i := 4) xS4 hSB' (.slice ua (k + 1) uc)
          have O5 := own_other hown4 oB4 4 (.slice ua (k + 1) uc)
          have t2 : (w4.setCell ⟨B, 4, none⟩ (.slice ua (k + 1) uc)).cell? ⟨S, 2, none⟩ = some (.int .i64 (x + d9)) := cell_at xS5 2
          clear HX hgrow C4 K4 xS4 mB4 mR4 hown4 oB4 O2 s0 s1 s2 g2 b4
          go_wp2
          clear q4 h4
          generalize w4.setCell ⟨B, 4, none⟩ (.slice ua (k + 1) uc) = V5 at *
          have HBL : Hid (∀ wx, Is W0 a n cap c wx → Calls Try.prog 26 #[.pointer (some ⟨c, 0, none⟩), .int .i64 120] wx fun e w' => (∃ x : Int, e = .returned (.int .i64 x) ∧ 0 ≤ x ∧ (0 < (120 : Int) → x < 120)) ∧ Is W0 a n cap c w' ∧ Moved c wx w') := fun wx h => below_any h 120
          have hw1 : IntKind.i64.wrap (x + d9 + 1) = x + d9 + 1 := by rw [IntKind.wrap_i64]; omega
          go_region_held3 (fun w' => w'.cell? ⟨S, 2, none⟩ = some (.int .i64 (x + d9))) (go_keep) (first
            | (go_at_call 26; refine (HBL.out _ ?_).mono ?_; (first | exact C5 | exact C5.drewN 1); rintro e v6 ⟨⟨y9, rfl, hp0, hp1⟩, C6, M6⟩; have hp2 := hp1 (by omega); have xS6 : v6.heap[S]? = _ := (M6.block _ hSc).trans xS5; have mR6 : v6.heap[w.heap.size]? = _ := (M6.block _ hRc).trans mR5; have mB6 : v6.heap[B]? = _ := (M6.block _ hBc).trans mB5; have O6 : v6.ownsRow w.heap.size 42 3 (.slice ua (k + 1) uc) (k + 1) (scells (l ++ [⟨z7, x, x + d9⟩])) := Cur.owns_moved O5 ⟨M6.size, M6.block⟩ hcw; have K6 : Kb c w v6 := K5.trans (Kb.moved ⟨M6.size, M6.block⟩); have t6 : v6.cell? ⟨S, 2, none⟩ = some (.int .i64 (x + d9)) := cell_at xS6 2; have hw2 : IntKind.i64.wrap (x + d9 + 1 + y9) = x + d9 + 1 + y9 := (by rw [IntKind.wrap_i64]; omega)))
          all_goals
            clear hp1
            go_wp2
            go_roundw
            case rel => exact ⟨k + 1, x + d9 + 1 + y9, y + 1, l ++ [⟨z7, x, x + d9⟩], ua, uc, HKM.out, by go_num, rfl, rfl, by omega, by omega, by omega, by omega, by rw [List.length_append, hlk]; rfl, C6, K6, mR6, mB6, O6⟩
            case measure => have := HKM.out; simp [intOf]; omega
        · obtain rfl : k = m + 2 := by omega
          have hkd : decide (((m + 2 : Nat) : Int) < 2 + (m : Int)) = false := decide_eq_false (by omega)
          have HLN : Hid (l.length = m + 2) := hlk
          have oR := Pk.own_ne' Or mRr (by decide)
          clear hkm hlk
          have b0 : wr.cell? ⟨B, 0, none⟩ = some (.int .i64 id) := cell_at mBr 0
          have b1 : wr.cell? ⟨B, 1, none⟩ = some (.int .i64 dy) := cell_at mBr 1
          have b2 : wr.cell? ⟨B, 2, none⟩ = some (.int .i64 co) := cell_at mBr 2
          have b3 : wr.cell? ⟨B, 3, none⟩ = some (.int .i64 se) := cell_at mBr 3
          have b4 : wr.cell? ⟨B, 4, none⟩ = some (.slice va (m + 2) vc) := cell_at mBr 4
          have z0 : wr.cell? ⟨w.heap.size, 0, none⟩ = some (.int .i64 0) := cell_at mRr 0
          have z1 : wr.cell? ⟨w.heap.size, 1, none⟩ = some (.int .i64 0) := cell_at mRr 1
          have z2 : wr.cell? ⟨w.heap.size, 2, none⟩ = some (.int .i64 0) := cell_at mRr 2
          have z3 : wr.cell? ⟨w.heap.size, 3, none⟩ = some (.int .i64 0) := cell_at mRr 3
          have z4 : wr.cell? ⟨w.heap.size, 4, none⟩ = some (.slice none 0 0) := cell_at mRr 4
          have y0 : wr.frozen? ⟨w.heap.size, 0, none⟩ = false := frozen_at mRr 0
          have y1 : wr.frozen? ⟨w.heap.size, 1, none⟩ = false := frozen_at mRr 1
          have y2 : wr.frozen? ⟨w.heap.size, 2, none⟩ = false := frozen_at mRr 2
          have y3 : wr.frozen? ⟨w.heap.size, 3, none⟩ = false := frozen_at mRr 3
          have y4 : wr.frozen? ⟨w.heap.size, 4, none⟩ = false := frozen_at mRr 4
          have HOF : Hid (∀ i u, _) := fun i u => own_other (own_other (own_other (own_other (own_other Or oR 0 (.int .i64 id)) oR 1 (.int .i64 dy)) oR 2 (.int .i64 co)) oR 3 (.int .i64 se)) oR i u
          have HCF : Hid (∀ i u, _) := fun i u => ((((Cr.set w.heap.size 0 (.int .i64 id) hRc hW0).set w.heap.size 1 (.int .i64 dy) hRc hW0).set w.heap.size 2 (.int .i64 co) hRc hW0).set w.heap.size 3 (.int .i64 se) hRc hW0).set w.heap.size i u hRc hW0
          have HKF : Hid (∀ i u, _) := fun i u => ((((Kr.set w.heap.size 0 (.int .i64 id) (Nat.le_refl _)).set w.heap.size 1 (.int .i64 dy) (Nat.le_refl _)).set w.heap.size 2 (.int .i64 co) (Nat.le_refl _)).set w.heap.size 3 (.int .i64 se) (Nat.le_refl _)).set w.heap.size i u (Nat.le_refl _)
          clear Or oR Cr Kr mRr mBr
          go_wp2
          refine bodyPost_ret (v := trV ⟨id, dy, co, se⟩ va (m + 2) vc) (by simp [results, Try.results48, go_sem, z0, z1, z2, z3, z4]) rfl ?_
          refine ⟨⟨⟨id, dy, co, se⟩, l, va, vc, by rw [HLN.out], rfl, ?_, by rw [HLN.out]; omega, by rw [HLN.out]; omega⟩, HCF.out 4 _, HKF.out 4 _⟩
          rw [HLN.out]
          exact HOF.out 4 _
    · have v2 : w7.cell? ⟨B, 2, none⟩ = some (.int .i64 co) := cell_at mB7 2
      have f2 : w7.frozen? ⟨B, 2, none⟩ = false := frozen_at mB7 2
      have v3 : w7.cell? ⟨B, 3, none⟩ = some (.int .i64 se) := cell_at mB7 3
      have f3 : w7.frozen? ⟨B, 3, none⟩ = false := frozen_at mB7 3
      go_wp2_with fail
      refine named fun W8 hW8 => ?_
      have CA : Is W0 a n cap c W8 := by rw [hW8]; exact (C7.set _ _ _ hBc hBW).set _ _ _ hBc hBW
      have mB : W8.heap[B]? = some (.cells #[.int .i64 id, .int .i64 dy, .int .i64 0, .int .i64 0, .slice none 0 0] 33) := by rw [hW8]; exact h_set (h_set mB7 _) _
      have mR : W8.heap[w.heap.size]? = some (Tn.trB ⟨0, 0, 0, 0⟩ none 0 0 33) := by rw [hW8]; exact h_other (h_other mR7 (by omega) _) (by omega) _
      have KA : Kb c w W8 := by rw [hW8]; exact (K7.set _ _ _ (by omega)).set _ _ _ (by omega)
      clear hW8 C7 mB7 mR7 K7
      have hB := lt_of mB
      have hR := lt_of mR
      go_wp2_with fail
      refine (below_any CA _).mono ?_
      rintro e u1 ⟨⟨at0, rfl, ha0, ha1⟩, C1, M1⟩
      go_wp2_with fail
      refine (below_any C1 _).mono ?_
      rintro e u2 ⟨⟨st0, rfl, hs0, hs1⟩, C2, M2⟩
      go_wp2_with fail
      refine (below_any C2 _).mono ?_
      rintro e u3 ⟨⟨nn, rfl, hn0, hn1⟩, C3, M3⟩
      have ha2 := ha1 (by omega)
      have hs2 := hs1 (by omega)
      have hn2 := hn1 (by omega)
      clear ha1 hs1 hn1
      have MV := (M1.trans M2).trans M3
      have mB3 := (MV.block _ hBc).trans mB
      have mR3 := (MV.block _ hRc).trans mR
      have KA3 := KA.trans (Kb.moved MV)
      clear M1 M2 M3 MV C1 C2 CA mB mR KA
      obtain ⟨m, rfl⟩ : ∃ m : Nat, nn = m := ⟨nn.toNat, by omega⟩
      have hRB' : w.heap.size ≠ B := by omega
      go_wp2
      go_loopw [6, 7, 9] (fun t s i wr => ∃ (k : Nat) (x y : Int) (l : List St) (va : Option Addr) (vc : Nat), k ≤ m + 2 ∧ i = .int .i64 k ∧ t = .int .i64 x ∧ s = .int .i64 y ∧ 0 ≤ x ∧ x ≤ 900 + 128 * (k : Int) ∧ 0 ≤ y ∧ y ≤ 100 + (k : Int) ∧ l.length = k ∧ Is W0 a n cap c wr ∧ Kb c w wr ∧ wr.heap[w.heap.size]? = some (Tn.trB ⟨0, 0, 0, 0⟩ none 0 0 33) ∧ wr.heap[B]? = some (.cells #[.int .i64 id, .int .i64 dy, .int .i64 0, .int .i64 0, .slice va k vc] 33) ∧ wr.ownsRow w.heap.size 42 3 (.slice va k vc) k (scells l)) (fun _ _ i _ => m + 2 - (intOf i).toNat)
      case atStart => exact ⟨0, at0, st0, [], none, 0, by omega, rfl, rfl, rfl, ha0, by omega, hs0, by omega, rfl, C3, KA3, mR3, mB3, ⟨rfl, Or.inl ⟨rfl, rfl⟩⟩⟩
      case round =>
        obtain ⟨k, x, y, l, va, vc, hk, rfl, rfl, rfl, hx0, hx1, hy0, hy1, hlk, Cr, Kr, mRr, mBr, Or⟩ := hrel
        clear C3 KA3 mR3 mB3
        by_cases hkm : k < m + 2
        · have hkd : decide ((k : Int) < 2 + (m : Int)) = true := decide_eq_true (by omega)
          have HKM : Hid (_) := hkm
          clear hkm
          go_wp2_with fail
          refine named fun WS hWS => ?_
          obtain ⟨z7, xS⟩ : ∃ z7 : Int, WS.heap[wr.heap.size]? = some (.cells #[.int .i64 z7, .int .i64 x, .int .i64 0] 42) := ⟨_, by rw [hWS]; exact heap_new _ _⟩
          have CS : Is W0 a n cap c WS := by rw [hWS]; exact Cr.alloc _
          have LS : Below wr.heap.size wr WS := by rw [hWS]; exact new_below _ _
          have mRS := kept LS (lt_of mRr) mRr
          have mBS := kept LS (lt_of mBr) mBr
          have OS := own_below Or LS (Nat.le_refl _)
          have KS := Kr.trans (Kb.of c LS)
          have hSc : wr.heap.size ≠ c := by have := Cr.lt; omega
          have HOL : Hid (∀ b, (Value.slice va k vc).ownBlock = some b → w.heap.size ≤ b ∧ b < wr.heap.size) := fun b hb => Or.lt b hb
          have hSB : B < wr.heap.size := lt_of mBr
          have hSw : w.heap.size < wr.heap.size := lt_of mRr
          clear hWS Cr LS mRr mBr Or Kr
          generalize wr.heap.size = S at *
          refine (below_any CS _).mono ?_
          rintro e v1 ⟨⟨d9, rfl, hd0, hd1⟩, C1, M1⟩
          have hd2 := hd1 (by omega)
          have xS1 := (M1.block _ hSc).trans xS
          have mR1 := (M1.block _ hRc).trans mRS
          have mB1 := (M1.block _ hBc).trans mBS
          have O1 := Cur.owns_moved OS M1 hcw
          have K1 := KS.trans (Kb.moved M1)
          clear CS M1 xS mRS mBS OS KS hd1
          have s0 : v1.cell? ⟨S, 0, none⟩ = some (.int .i64 z7) := cell_at xS1 0
          have s1 : v1.cell? ⟨S, 1, none⟩ = some (.int .i64 x) := cell_at xS1 1
          have s2 : v1.cell? ⟨S, 2, none⟩ = some (.int .i64 0) := cell_at xS1 2
          have g2 : v1.frozen? ⟨S, 2, none⟩ = false := frozen_at xS1 2
          have b4 : v1.cell? ⟨B, 4, none⟩ = some (.slice va k vc) := cell_at mB1 4
          have oS : (Value.slice va k vc).ownBlock ≠ some S := fun h => by have := (HOL.out S h).2; omega
          have oB := Pk.own_ne' O1 mB1 (by decide)
          have oR := Pk.own_ne' O1 mR1 (by decide)
          have oc : (Value.slice va k vc).ownBlock ≠ some c := fun h => by have := (HOL.out c h).1; omega
          have hBS : B ≠ S := by omega
          have hSB' : S ≠ B := by omega
          have HX : Hid (∀ w4, ((v1.setCell ⟨S, 2, none⟩ (.int .i64 (x + d9))).alloc (.cells #[.int .i64 z7, .int .i64 x, .int .i64 (x + d9)] 42)).grownBy w4 (Value.slice va k vc).ownBlock → Is W0 a n cap c w4 ∧ Kb c w w4 ∧ w4.heap[S]? = some (.cells #[.int .i64 z7, .int .i64 x, .int .i64 (x + d9)] 42) ∧ w4.heap[B]? = some (.cells #[.int .i64 id, .int .i64 dy, .int .i64 0, .int .i64 0, .slice va k vc] 33) ∧ w4.heap[w.heap.size]? = some (Tn.trB ⟨0, 0, 0, 0⟩ none 0 0 33)) := by
            intro w4 G
            have xS2 := heap_old (h_set (i := 2) xS1 (.int .i64 (x + d9))) (.cells #[.int .i64 z7, .int .i64 x, .int .i64 (x + d9)] 42)
            have mB2 := heap_old (h_other (i := 2) mB1 hBS (.int .i64 (x + d9))) (.cells #[.int .i64 z7, .int .i64 x, .int .i64 (x + d9)] 42)
            have mR2 := heap_old (h_other (i := 2) mR1 (by omega : w.heap.size ≠ S) (.int .i64 (x + d9))) (.cells #[.int .i64 z7, .int .i64 x, .int .i64 (x + d9)] 42)
            refine ⟨((C1.set S 2 _ hSc (by omega)).alloc _).grown G oc (fun b hb => by have := (HOL.out b hb).1; omega), ((K1.set S 2 _ (by omega)).alloc _).grown G (fun b hb => (HOL.out b hb).1), ?_, ?_, ?_⟩
            · exact (G.block S (lt_of xS2) (fun h => oS h.symm)).trans xS2
            · exact (G.block B (lt_of mB2) (fun h => oB h.symm)).trans mB2
            · exact (G.block w.heap.size (lt_of mR2) (fun h => oR h.symm)).trans mR2
          have O2 := own_other O1 oS 2 (.int .i64 (x + d9))
          have hbase : w.heap.size ≤ v1.heap.size := K1.size
          have HMV : Hid (_ ∧ _) := ⟨hx0, hx1⟩
          clear O1 K1 C1 mB1 mR1 xS1 HOL oS oB oR
          go_wp2_with (at_builtin; refine wpList_append_own _ rfl _ _ 31 rfl w.heap.size 42 i0 (.agg #[.int .i64 0, .int .i64 0, .int .i64 0]) 3 24 Try.underlying31 hi hz0 hz1 hz2 rfl (by decide) _ _ _ rfl (O2.alloc _) ⟨v1.heap.size, 0, none⟩ 1 1 [.int .i64 z7, .int .i64 x, .int .i64 (x + d9)] rfl rfl ?c1 ?c2 ?c3 ?c4 ?c5 ?_)
          case c1 => intro j u h; have h9 := new3 (v1.setCell ⟨S, 2, none⟩ (.int .i64 (x + d9))) 42 _ _ _ j u h; rw [World.size_setCell] at h9; exact h9
          case c2 => intro u hu; simp at hu; rcases hu with rfl | rfl | rfl <;> rfl
          case c3 => unfold maxLen; have := HKM.out; omega
          case c4 => have := HKM.out; omega
          case c5 => simp; omega
          intro v4 w4 hown4 hgrow _
          obtain ⟨C4, K4, xS4, mB4, mR4⟩ := HX.out w4 hgrow
          rw [scells_snoc l ⟨z7, x, x + d9⟩] at hown4
          have oB4 := Pk.own_ne' hown4 mB4 (by decide)
          obtain ⟨ua, uc, rfl, -⟩ := own_form hown4
          have q4 : w4.cell? ⟨B, 4, none⟩ = some (.slice va k vc) := cell_at mB4 4
          have h4 : w4.frozen? ⟨B, 4, none⟩ = false := frozen_at mB4 4
          have C5 := C4.set B 4 (.slice ua (k + 1) uc) hBc hBW
          have K5 := K4.set B 4 (.slice ua (k + 1) uc) (by omega)
          have mB5 := h_set (i := 4) mB4 (.slice ua (k + 1) uc)
          have mR5 := h_other (i := 4) mR4 hRB' (.slice ua (k + 1) uc)
          have xS5 := h_other (i := 4) xS4 hSB' (.slice ua (k + 1) uc)
          have O5 := own_other hown4 oB4 4 (.slice ua (k + 1) uc)
          have t2 : (w4.setCell ⟨B, 4, none⟩ (.slice ua (k + 1) uc)).cell? ⟨S, 2, none⟩ = some (.int .i64 (x + d9)) := cell_at xS5 2
          clear HX hgrow C4 K4 xS4 mB4 mR4 hown4 oB4 O2 s0 s1 s2 g2 b4
          go_wp2
          clear q4 h4
          generalize w4.setCell ⟨B, 4, none⟩ (.slice ua (k + 1) uc) = V5 at *
          have HBL : Hid (∀ wx, Is W0 a n cap c wx → Calls Try.prog 26 #[.pointer (some ⟨c, 0, none⟩), .int .i64 120] wx fun e w' => (∃ x : Int, e = .returned (.int .i64 x) ∧ 0 ≤ x ∧ (0 < (120 : Int) → x < 120)) ∧ Is W0 a n cap c w' ∧ Moved c wx w') := fun wx h => below_any h 120
          have hw1 : IntKind.i64.wrap (x + d9 + 1) = x + d9 + 1 := by rw [IntKind.wrap_i64]; omega
          go_region_held3 (fun w' => w'.cell? ⟨S, 2, none⟩ = some (.int .i64 (x + d9))) (go_keep) (first
            | (go_at_call 26; refine (HBL.out _ ?_).mono ?_; (first | exact C5 | exact C5.drewN 1); rintro e v6 ⟨⟨y9, rfl, hp0, hp1⟩, C6, M6⟩; have hp2 := hp1 (by omega); have xS6 : v6.heap[S]? = _ := (M6.block _ hSc).trans xS5; have mR6 : v6.heap[w.heap.size]? = _ := (M6.block _ hRc).trans mR5; have mB6 : v6.heap[B]? = _ := (M6.block _ hBc).trans mB5; have O6 : v6.ownsRow w.heap.size 42 3 (.slice ua (k + 1) uc) (k + 1) (scells (l ++ [⟨z7, x, x + d9⟩])) := Cur.owns_moved O5 ⟨M6.size, M6.block⟩ hcw; have K6 : Kb c w v6 := K5.trans (Kb.moved ⟨M6.size, M6.block⟩); have t6 : v6.cell? ⟨S, 2, none⟩ = some (.int .i64 (x + d9)) := cell_at xS6 2; have hw2 : IntKind.i64.wrap (x + d9 + 1 + y9) = x + d9 + 1 + y9 := (by rw [IntKind.wrap_i64]; omega)))
          all_goals
            clear hp1
            go_wp2
            go_roundw
            case rel => exact ⟨k + 1, x + d9 + 1 + y9, y + 1, l ++ [⟨z7, x, x + d9⟩], ua, uc, HKM.out, by go_num, rfl, rfl, by omega, by omega, by omega, by omega, by rw [List.length_append, hlk]; rfl, C6, K6, mR6, mB6, O6⟩
            case measure => have := HKM.out; simp [intOf]; omega
        · obtain rfl : k = m + 2 := by omega
          have hkd : decide (((m + 2 : Nat) : Int) < 2 + (m : Int)) = false := decide_eq_false (by omega)
          have HLN : Hid (l.length = m + 2) := hlk
          have oR := Pk.own_ne' Or mRr (by decide)
          clear hkm hlk
          have b0 : wr.cell? ⟨B, 0, none⟩ = some (.int .i64 id) := cell_at mBr 0
          have b1 : wr.cell? ⟨B, 1, none⟩ = some (.int .i64 dy) := cell_at mBr 1
          have b2 : wr.cell? ⟨B, 2, none⟩ = some (.int .i64 0) := cell_at mBr 2
          have b3 : wr.cell? ⟨B, 3, none⟩ = some (.int .i64 0) := cell_at mBr 3
          have b4 : wr.cell? ⟨B, 4, none⟩ = some (.slice va (m + 2) vc) := cell_at mBr 4
          have z0 : wr.cell? ⟨w.heap.size, 0, none⟩ = some (.int .i64 0) := cell_at mRr 0
          have z1 : wr.cell? ⟨w.heap.size, 1, none⟩ = some (.int .i64 0) := cell_at mRr 1
          have z2 : wr.cell? ⟨w.heap.size, 2, none⟩ = some (.int .i64 0) := cell_at mRr 2
          have z3 : wr.cell? ⟨w.heap.size, 3, none⟩ = some (.int .i64 0) := cell_at mRr 3
          have z4 : wr.cell? ⟨w.heap.size, 4, none⟩ = some (.slice none 0 0) := cell_at mRr 4
          have y0 : wr.frozen? ⟨w.heap.size, 0, none⟩ = false := frozen_at mRr 0
          have y1 : wr.frozen? ⟨w.heap.size, 1, none⟩ = false := frozen_at mRr 1
          have y2 : wr.frozen? ⟨w.heap.size, 2, none⟩ = false := frozen_at mRr 2
          have y3 : wr.frozen? ⟨w.heap.size, 3, none⟩ = false := frozen_at mRr 3
          have y4 : wr.frozen? ⟨w.heap.size, 4, none⟩ = false := frozen_at mRr 4
          have HOF : Hid (∀ i u, _) := fun i u => own_other (own_other (own_other (own_other (own_other Or oR 0 (.int .i64 id)) oR 1 (.int .i64 dy)) oR 2 (.int .i64 0)) oR 3 (.int .i64 0)) oR i u
          have HCF : Hid (∀ i u, _) := fun i u => ((((Cr.set w.heap.size 0 (.int .i64 id) hRc hW0).set w.heap.size 1 (.int .i64 dy) hRc hW0).set w.heap.size 2 (.int .i64 0) hRc hW0).set w.heap.size 3 (.int .i64 0) hRc hW0).set w.heap.size i u hRc hW0
          have HKF : Hid (∀ i u, _) := fun i u => ((((Kr.set w.heap.size 0 (.int .i64 id) (Nat.le_refl _)).set w.heap.size 1 (.int .i64 dy) (Nat.le_refl _)).set w.heap.size 2 (.int .i64 0) (Nat.le_refl _)).set w.heap.size 3 (.int .i64 0) (Nat.le_refl _)).set w.heap.size i u (Nat.le_refl _)
          clear Or oR Cr Kr mRr mBr
          go_wp2
          refine bodyPost_ret (v := trV ⟨id, dy, 0, 0⟩ va (m + 2) vc) (by simp [results, Try.results48, go_sem, z0, z1, z2, z3, z4]) rfl ?_
          refine ⟨⟨⟨id, dy, 0, 0⟩, l, va, vc, by rw [HLN.out], rfl, ?_, by rw [HLN.out]; omega, by rw [HLN.out]; omega⟩, HCF.out 4 _, HKF.out 4 _⟩
          rw [HLN.out]
          exact HOF.out 4 _
  · have v1 : w5.cell? ⟨B, 1, none⟩ = some (.int .i64 dy) := cell_at mB5 1
    have f1 : w5.frozen? ⟨B, 1, none⟩ = false := frozen_at mB5 1
    go_wp2_with fail
    refine named fun W6 hW6 => ?_
    have C6 : Is W0 a n cap c W6 := by rw [hW6]; exact C5.set _ _ _ hBc hBW
    have mB6 : W6.heap[B]? = some (.cells #[.int .i64 id, .int .i64 127, .int .i64 co, .int .i64 se, .slice none 0 0] 33) := by rw [hW6]; exact h_set mB5 _
    have mR6 : W6.heap[w.heap.size]? = some (Tn.trB ⟨0, 0, 0, 0⟩ none 0 0 33) := by rw [hW6]; exact h_other mR5 (by omega) _
    have K6 : Kb c w W6 := by rw [hW6]; exact K5.set _ _ _ (by omega)
    clear hW6 C5 mB5 mR5 K5
    refine (once_any C6 _).mono ?_
    rintro e w7 ⟨⟨t2, rfl⟩, C7, M7⟩
    have mB7 := (M7.block _ hBc).trans mB6
    have mR7 := (M7.block _ hRc).trans mR6
    have K7 := K6.trans (Kb.moved M7)
    clear C6 mB6 mR6 K6 M7
    cases t2
    · go_wp2_with fail
      refine named fun W8 hW8 => ?_
      have CA : Is W0 a n cap c W8 := by rw [hW8]; exact C7
      have mB : W8.heap[B]? = some (.cells #[.int .i64 id, .int .i64 127, .int .i64 co, .int .i64 se, .slice none 0 0] 33) := by rw [hW8]; exact mB7
      have mR : W8.heap[w.heap.size]? = some (Tn.trB ⟨0, 0, 0, 0⟩ none 0 0 33) := by rw [hW8]; exact mR7
      have KA : Kb c w W8 := by rw [hW8]; exact K7
      clear hW8 C7 mB7 mR7 K7
      have hB := lt_of mB
      have hR := lt_of mR
      go_wp2_with fail
      refine (below_any CA _).mono ?_
      rintro e u1 ⟨⟨at0, rfl, ha0, ha1⟩, C1, M1⟩
      go_wp2_with fail
      refine (below_any C1 _).mono ?_
      rintro e u2 ⟨⟨st0, rfl, hs0, hs1⟩, C2, M2⟩
      go_wp2_with fail
      refine (below_any C2 _).mono ?_
      rintro e u3 ⟨⟨nn, rfl, hn0, hn1⟩, C3, M3⟩
      have ha2 := ha1 (by omega)
      have hs2 := hs1 (by omega)
      have hn2 := hn1 (by omega)
      clear ha1 hs1 hn1
      have MV := (M1.trans M2).trans M3
      have mB3 := (MV.block _ hBc).trans mB
      have mR3 := (MV.block _ hRc).trans mR
      have KA3 := KA.trans (Kb.moved MV)
      clear M1 M2 M3 MV C1 C2 CA mB mR KA
      obtain ⟨m, rfl⟩ : ∃ m : Nat, nn = m := ⟨nn.toNat, by omega⟩
      have hRB' : w.heap.size ≠ B := by omega
      go_wp2
      go_loopw [6, 7, 9] (fun t s i wr => ∃ (k : Nat) (x y : Int) (l : List St) (va : Option Addr) (vc : Nat), k ≤ m + 2 ∧ i = .int .i64 k ∧ t = .int .i64 x ∧ s = .int .i64 y ∧ 0 ≤ x ∧ x ≤ 900 + 128 * (k : Int) ∧ 0 ≤ y ∧ y ≤ 100 + (k : Int) ∧ l.length = k ∧ Is W0 a n cap c wr ∧ Kb c w wr ∧ wr.heap[w.heap.size]? = some (Tn.trB ⟨0, 0, 0, 0⟩ none 0 0 33) ∧ wr.heap[B]? = some (.cells #[.int .i64 id, .int .i64 127, .int .i64 co, .int .i64 se, .slice va k vc] 33) ∧ wr.ownsRow w.heap.size 42 3 (.slice va k vc) k (scells l)) (fun _ _ i _ => m + 2 - (intOf i).toNat)
      case atStart => exact ⟨0, at0, st0, [], none, 0, by omega, rfl, rfl, rfl, ha0, by omega, hs0, by omega, rfl, C3, KA3, mR3, mB3, ⟨rfl, Or.inl ⟨rfl, rfl⟩⟩⟩
      case round =>
        obtain ⟨k, x, y, l, va, vc, hk, rfl, rfl, rfl, hx0, hx1, hy0, hy1, hlk, Cr, Kr, mRr, mBr, Or⟩ := hrel
        clear C3 KA3 mR3 mB3
        by_cases hkm : k < m + 2
        · have hkd : decide ((k : Int) < 2 + (m : Int)) = true := decide_eq_true (by omega)
          have HKM : Hid (_) := hkm
          clear hkm
          go_wp2_with fail
          refine named fun WS hWS => ?_
          obtain ⟨z7, xS⟩ : ∃ z7 : Int, WS.heap[wr.heap.size]? = some (.cells #[.int .i64 z7, .int .i64 x, .int .i64 0] 42) := ⟨_, by rw [hWS]; exact heap_new _ _⟩
          have CS : Is W0 a n cap c WS := by rw [hWS]; exact Cr.alloc _
          have LS : Below wr.heap.size wr WS := by rw [hWS]; exact new_below _ _
          have mRS := kept LS (lt_of mRr) mRr
          have mBS := kept LS (lt_of mBr) mBr
          have OS := own_below Or LS (Nat.le_refl _)
          have KS := Kr.trans (Kb.of c LS)
          have hSc : wr.heap.size ≠ c := by have := Cr.lt; omega
          have HOL : Hid (∀ b, (Value.slice va k vc).ownBlock = some b → w.heap.size ≤ b ∧ b < wr.heap.size) := fun b hb => Or.lt b hb
          have hSB : B < wr.heap.size := lt_of mBr
          have hSw : w.heap.size < wr.heap.size := lt_of mRr
          clear hWS Cr LS mRr mBr Or Kr
          generalize wr.heap.size = S at *
          refine (below_any CS _).mono ?_
          rintro e v1 ⟨⟨d9, rfl, hd0, hd1⟩, C1, M1⟩
          have hd2 := hd1 (by omega)
          have xS1 := (M1.block _ hSc).trans xS
          have mR1 := (M1.block _ hRc).trans mRS
          have mB1 := (M1.block _ hBc).trans mBS
          have O1 := Cur.owns_moved OS M1 hcw
          have K1 := KS.trans (Kb.moved M1)
          clear CS M1 xS mRS mBS OS KS hd1
          have s0 : v1.cell? ⟨S, 0, none⟩ = some (.int .i64 z7) := cell_at xS1 0
          have s1 : v1.cell? ⟨S, 1, none⟩ = some (.int .i64 x) := cell_at xS1 1
          have s2 : v1.cell? ⟨S, 2, none⟩ = some (.int .i64 0) := cell_at xS1 2
          have g2 : v1.frozen? ⟨S, 2, none⟩ = false := frozen_at xS1 2
          have b4 : v1.cell? ⟨B, 4, none⟩ = some (.slice va k vc) := cell_at mB1 4
          have oS : (Value.slice va k vc).ownBlock ≠ some S := fun h => by have := (HOL.out S h).2; omega
          have oB := Pk.own_ne' O1 mB1 (by decide)
          have oR := Pk.own_ne' O1 mR1 (by decide)
          have oc : (Value.slice va k vc).ownBlock ≠ some c := fun h => by have := (HOL.out c h).1; omega
          have hBS : B ≠ S := by omega
          have hSB' : S ≠ B := by omega
          have HX : Hid (∀ w4, ((v1.setCell ⟨S, 2, none⟩ (.int .i64 (x + d9))).alloc (.cells #[.int .i64 z7, .int .i64 x, .int .i64 (x + d9)] 42)).grownBy w4 (Value.slice va k vc).ownBlock → Is W0 a n cap c w4 ∧ Kb c w w4 ∧ w4.heap[S]? = some (.cells #[.int .i64 z7, .int .i64 x, .int .i64 (x + d9)] 42) ∧ w4.heap[B]? = some (.cells #[.int .i64 id, .int .i64 127, .int .i64 co, .int .i64 se, .slice va k vc] 33) ∧ w4.heap[w.heap.size]? = some (Tn.trB ⟨0, 0, 0, 0⟩ none 0 0 33)) := by
            intro w4 G
            have xS2 := heap_old (h_set (i := 2) xS1 (.int .i64 (x + d9))) (.cells #[.int .i64 z7, .int .i64 x, .int .i64 (x + d9)] 42)
            have mB2 := heap_old (h_other (i := 2) mB1 hBS (.int .i64 (x + d9))) (.cells #[.int .i64 z7, .int .i64 x, .int .i64 (x + d9)] 42)
            have mR2 := heap_old (h_other (i := 2) mR1 (by omega : w.heap.size ≠ S) (.int .i64 (x + d9))) (.cells #[.int .i64 z7, .int .i64 x, .int .i64 (x + d9)] 42)
            refine ⟨((C1.set S 2 _ hSc (by omega)).alloc _).grown G oc (fun b hb => by have := (HOL.out b hb).1; omega), ((K1.set S 2 _ (by omega)).alloc _).grown G (fun b hb => (HOL.out b hb).1), ?_, ?_, ?_⟩
            · exact (G.block S (lt_of xS2) (fun h => oS h.symm)).trans xS2
            · exact (G.block B (lt_of mB2) (fun h => oB h.symm)).trans mB2
            · exact (G.block w.heap.size (lt_of mR2) (fun h => oR h.symm)).trans mR2
          have O2 := own_other O1 oS 2 (.int .i64 (x + d9))
          have hbase : w.heap.size ≤ v1.heap.size := K1.size
          have HMV : Hid (_ ∧ _) := ⟨hx0, hx1⟩
          clear O1 K1 C1 mB1 mR1 xS1 HOL oS oB oR
          go_wp2_with (at_builtin; refine wpList_append_own _ rfl _ _ 31 rfl w.heap.size 42 i0 (.agg #[.int .i64 0, .int .i64 0, .int .i64 0]) 3 24 Try.underlying31 hi hz0 hz1 hz2 rfl (by decide) _ _ _ rfl (O2.alloc _) ⟨v1.heap.size, 0, none⟩ 1 1 [.int .i64 z7, .int .i64 x, .int .i64 (x + d9)] rfl rfl ?c1 ?c2 ?c3 ?c4 ?c5 ?_)
          case c1 => intro j u h; have h9 := new3 (v1.setCell ⟨S, 2, none⟩ (.int .i64 (x + d9))) 42 _ _ _ j u h; rw [World.size_setCell] at h9; exact h9
          case c2 => intro u hu; simp at hu; rcases hu with rfl | rfl | rfl <;> rfl
          case c3 => unfold maxLen; have := HKM.out; omega
          case c4 => have := HKM.out; omega
          case c5 => simp; omega
          intro v4 w4 hown4 hgrow _
          obtain ⟨C4, K4, xS4, mB4, mR4⟩ := HX.out w4 hgrow
          rw [scells_snoc l ⟨z7, x, x + d9⟩] at hown4
          have oB4 := Pk.own_ne' hown4 mB4 (by decide)
          obtain ⟨ua, uc, rfl, -⟩ := own_form hown4
          have q4 : w4.cell? ⟨B, 4, none⟩ = some (.slice va k vc) := cell_at mB4 4
          have h4 : w4.frozen? ⟨B, 4, none⟩ = false := frozen_at mB4 4
          have C5 := C4.set B 4 (.slice ua (k + 1) uc) hBc hBW
          have K5 := K4.set B 4 (.slice ua (k + 1) uc) (by omega)
          have mB5 := h_set (i := 4) mB4 (.slice ua (k + 1) uc)
          have mR5 := h_other (i := 4) mR4 hRB' (.slice ua (k + 1) uc)
          have xS5 := h_other (i := 4) xS4 hSB' (.slice ua (k + 1) uc)
          have O5 := own_other hown4 oB4 4 (.slice ua (k + 1) uc)
          have t2 : (w4.setCell ⟨B, 4, none⟩ (.slice ua (k + 1) uc)).cell? ⟨S, 2, none⟩ = some (.int .i64 (x + d9)) := cell_at xS5 2
          clear HX hgrow C4 K4 xS4 mB4 mR4 hown4 oB4 O2 s0 s1 s2 g2 b4
          go_wp2
          clear q4 h4
          generalize w4.setCell ⟨B, 4, none⟩ (.slice ua (k + 1) uc) = V5 at *
          have HBL : Hid (∀ wx, Is W0 a n cap c wx → Calls Try.prog 26 #[.pointer (some ⟨c, 0, none⟩), .int .i64 120] wx fun e w' => (∃ x : Int, e = .returned (.int .i64 x) ∧ 0 ≤ x ∧ (0 < (120 : Int) → x < 120)) ∧ Is W0 a n cap c w' ∧ Moved c wx w') := fun wx h => below_any h 120
          have hw1 : IntKind.i64.wrap (x + d9 + 1) = x + d9 + 1 := by rw [IntKind.wrap_i64]; omega
          go_region_held3 (fun w' => w'.cell? ⟨S, 2, none⟩ = some (.int .i64 (x + d9))) (go_keep) (first
            | (go_at_call 26; refine (HBL.out _ ?_).mono ?_; (first | exact C5 | exact C5.drewN 1); rintro e v6 ⟨⟨y9, rfl, hp0, hp1⟩, C6, M6⟩; have hp2 := hp1 (by omega); have xS6 : v6.heap[S]? = _ := (M6.block _ hSc).trans xS5; have mR6 : v6.heap[w.heap.size]? = _ := (M6.block _ hRc).trans mR5; have mB6 : v6.heap[B]? = _ := (M6.block _ hBc).trans mB5; have O6 : v6.ownsRow w.heap.size 42 3 (.slice ua (k + 1) uc) (k + 1) (scells (l ++ [⟨z7, x, x + d9⟩])) := Cur.owns_moved O5 ⟨M6.size, M6.block⟩ hcw; have K6 : Kb c w v6 := K5.trans (Kb.moved ⟨M6.size, M6.block⟩); have t6 : v6.cell? ⟨S, 2, none⟩ = some (.int .i64 (x + d9)) := cell_at xS6 2; have hw2 : IntKind.i64.wrap (x + d9 + 1 + y9) = x + d9 + 1 + y9 := (by rw [IntKind.wrap_i64]; omega)))
          all_goals
            clear hp1
            go_wp2
            go_roundw
            case rel => exact ⟨k + 1, x + d9 + 1 + y9, y + 1, l ++ [⟨z7, x, x + d9⟩], ua, uc, HKM.out, by go_num, rfl, rfl, by omega, by omega, by omega, by omega, by rw [List.length_append, hlk]; rfl, C6, K6, mR6, mB6, O6⟩
            case measure => have := HKM.out; simp [intOf]; omega
        · obtain rfl : k = m + 2 := by omega
          have hkd : decide (((m + 2 : Nat) : Int) < 2 + (m : Int)) = false := decide_eq_false (by omega)
          have HLN : Hid (l.length = m + 2) := hlk
          have oR := Pk.own_ne' Or mRr (by decide)
          clear hkm hlk
          have b0 : wr.cell? ⟨B, 0, none⟩ = some (.int .i64 id) := cell_at mBr 0
          have b1 : wr.cell? ⟨B, 1, none⟩ = some (.int .i64 127) := cell_at mBr 1
          have b2 : wr.cell? ⟨B, 2, none⟩ = some (.int .i64 co) := cell_at mBr 2
          have b3 : wr.cell? ⟨B, 3, none⟩ = some (.int .i64 se) := cell_at mBr 3
          have b4 : wr.cell? ⟨B, 4, none⟩ = some (.slice va (m + 2) vc) := cell_at mBr 4
          have z0 : wr.cell? ⟨w.heap.size, 0, none⟩ = some (.int .i64 0) := cell_at mRr 0
          have z1 : wr.cell? ⟨w.heap.size, 1, none⟩ = some (.int .i64 0) := cell_at mRr 1
          have z2 : wr.cell? ⟨w.heap.size, 2, none⟩ = some (.int .i64 0) := cell_at mRr 2
          have z3 : wr.cell? ⟨w.heap.size, 3, none⟩ = some (.int .i64 0) := cell_at mRr 3
          have z4 : wr.cell? ⟨w.heap.size, 4, none⟩ = some (.slice none 0 0) := cell_at mRr 4
          have y0 : wr.frozen? ⟨w.heap.size, 0, none⟩ = false := frozen_at mRr 0
          have y1 : wr.frozen? ⟨w.heap.size, 1, none⟩ = false := frozen_at mRr 1
          have y2 : wr.frozen? ⟨w.heap.size, 2, none⟩ = false := frozen_at mRr 2
          have y3 : wr.frozen? ⟨w.heap.size, 3, none⟩ = false := frozen_at mRr 3
          have y4 : wr.frozen? ⟨w.heap.size, 4, none⟩ = false := frozen_at mRr 4
          have HOF : Hid (∀ i u, _) := fun i u => own_other (own_other (own_other (own_other (own_other Or oR 0 (.int .i64 id)) oR 1 (.int .i64 127)) oR 2 (.int .i64 co)) oR 3 (.int .i64 se)) oR i u
          have HCF : Hid (∀ i u, _) := fun i u => ((((Cr.set w.heap.size 0 (.int .i64 id) hRc hW0).set w.heap.size 1 (.int .i64 127) hRc hW0).set w.heap.size 2 (.int .i64 co) hRc hW0).set w.heap.size 3 (.int .i64 se) hRc hW0).set w.heap.size i u hRc hW0
          have HKF : Hid (∀ i u, _) := fun i u => ((((Kr.set w.heap.size 0 (.int .i64 id) (Nat.le_refl _)).set w.heap.size 1 (.int .i64 127) (Nat.le_refl _)).set w.heap.size 2 (.int .i64 co) (Nat.le_refl _)).set w.heap.size 3 (.int .i64 se) (Nat.le_refl _)).set w.heap.size i u (Nat.le_refl _)
          clear Or oR Cr Kr mRr mBr
          go_wp2
          refine bodyPost_ret (v := trV ⟨id, 127, co, se⟩ va (m + 2) vc) (by simp [results, Try.results48, go_sem, z0, z1, z2, z3, z4]) rfl ?_
          refine ⟨⟨⟨id, 127, co, se⟩, l, va, vc, by rw [HLN.out], rfl, ?_, by rw [HLN.out]; omega, by rw [HLN.out]; omega⟩, HCF.out 4 _, HKF.out 4 _⟩
          rw [HLN.out]
          exact HOF.out 4 _
    · have v2 : w7.cell? ⟨B, 2, none⟩ = some (.int .i64 co) := cell_at mB7 2
      have f2 : w7.frozen? ⟨B, 2, none⟩ = false := frozen_at mB7 2
      have v3 : w7.cell? ⟨B, 3, none⟩ = some (.int .i64 se) := cell_at mB7 3
      have f3 : w7.frozen? ⟨B, 3, none⟩ = false := frozen_at mB7 3
      go_wp2_with fail
      refine named fun W8 hW8 => ?_
      have CA : Is W0 a n cap c W8 := by rw [hW8]; exact (C7.set _ _ _ hBc hBW).set _ _ _ hBc hBW
      have mB : W8.heap[B]? = some (.cells #[.int .i64 id, .int .i64 127, .int .i64 0, .int .i64 0, .slice none 0 0] 33) := by rw [hW8]; exact h_set (h_set mB7 _) _
      have mR : W8.heap[w.heap.size]? = some (Tn.trB ⟨0, 0, 0, 0⟩ none 0 0 33) := by rw [hW8]; exact h_other (h_other mR7 (by omega) _) (by omega) _
      have KA : Kb c w W8 := by rw [hW8]; exact (K7.set _ _ _ (by omega)).set _ _ _ (by omega)
      clear hW8 C7 mB7 mR7 K7
      have hB := lt_of mB
      have hR := lt_of mR
      go_wp2_with fail
      refine (below_any CA _).mono ?_
      rintro e u1 ⟨⟨at0, rfl, ha0, ha1⟩, C1, M1⟩
      go_wp2_with fail
      refine (below_any C1 _).mono ?_
      rintro e u2 ⟨⟨st0, rfl, hs0, hs1⟩, C2, M2⟩
      go_wp2_with fail
      refine (below_any C2 _).mono ?_
      rintro e u3 ⟨⟨nn, rfl, hn0, hn1⟩, C3, M3⟩
      have ha2 := ha1 (by omega)
      have hs2 := hs1 (by omega)
      have hn2 := hn1 (by omega)
      clear ha1 hs1 hn1
      have MV := (M1.trans M2).trans M3
      have mB3 := (MV.block _ hBc).trans mB
      have mR3 := (MV.block _ hRc).trans mR
      have KA3 := KA.trans (Kb.moved MV)
      clear M1 M2 M3 MV C1 C2 CA mB mR KA
      obtain ⟨m, rfl⟩ : ∃ m : Nat, nn = m := ⟨nn.toNat, by omega⟩
      have hRB' : w.heap.size ≠ B := by omega
      go_wp2
      go_loopw [6, 7, 9] (fun t s i wr => ∃ (k : Nat) (x y : Int) (l : List St) (va : Option Addr) (vc : Nat), k ≤ m + 2 ∧ i = .int .i64 k ∧ t = .int .i64 x ∧ s = .int .i64 y ∧ 0 ≤ x ∧ x ≤ 900 + 128 * (k : Int) ∧ 0 ≤ y ∧ y ≤ 100 + (k : Int) ∧ l.length = k ∧ Is W0 a n cap c wr ∧ Kb c w wr ∧ wr.heap[w.heap.size]? = some (Tn.trB ⟨0, 0, 0, 0⟩ none 0 0 33) ∧ wr.heap[B]? = some (.cells #[.int .i64 id, .int .i64 127, .int .i64 0, .int .i64 0, .slice va k vc] 33) ∧ wr.ownsRow w.heap.size 42 3 (.slice va k vc) k (scells l)) (fun _ _ i _ => m + 2 - (intOf i).toNat)
      case atStart => exact ⟨0, at0, st0, [], none, 0, by omega, rfl, rfl, rfl, ha0, by omega, hs0, by omega, rfl, C3, KA3, mR3, mB3, ⟨rfl, Or.inl ⟨rfl, rfl⟩⟩⟩
      case round =>
        obtain ⟨k, x, y, l, va, vc, hk, rfl, rfl, rfl, hx0, hx1, hy0, hy1, hlk, Cr, Kr, mRr, mBr, Or⟩ := hrel
        clear C3 KA3 mR3 mB3
        by_cases hkm : k < m + 2
        · have hkd : decide ((k : Int) < 2 + (m : Int)) = true := decide_eq_true (by omega)
          have HKM : Hid (_) := hkm
          clear hkm
          go_wp2_with fail
          refine named fun WS hWS => ?_
          obtain ⟨z7, xS⟩ : ∃ z7 : Int, WS.heap[wr.heap.size]? = some (.cells #[.int .i64 z7, .int .i64 x, .int .i64 0] 42) := ⟨_, by rw [hWS]; exact heap_new _ _⟩
          have CS : Is W0 a n cap c WS := by rw [hWS]; exact Cr.alloc _
          have LS : Below wr.heap.size wr WS := by rw [hWS]; exact new_below _ _
          have mRS := kept LS (lt_of mRr) mRr
          have mBS := kept LS (lt_of mBr) mBr
          have OS := own_below Or LS (Nat.le_refl _)
          have KS := Kr.trans (Kb.of c LS)
          have hSc : wr.heap.size ≠ c := by have := Cr.lt; omega
          have HOL : Hid (∀ b, (Value.slice va k vc).ownBlock = some b → w.heap.size ≤ b ∧ b < wr.heap.size) := fun b hb => Or.lt b hb
          have hSB : B < wr.heap.size := lt_of mBr
          have hSw : w.heap.size < wr.heap.size := lt_of mRr
          clear hWS Cr LS mRr mBr Or Kr
          generalize wr.heap.size = S at *
          refine (below_any CS _).mono ?_
          rintro e v1 ⟨⟨d9, rfl, hd0, hd1⟩, C1, M1⟩
          have hd2 := hd1 (by omega)
          have xS1 := (M1.block _ hSc).trans xS
          have mR1 := (M1.block _ hRc).trans mRS
          have mB1 := (M1.block _ hBc).trans mBS
          have O1 := Cur.owns_moved OS M1 hcw
          have K1 := KS.trans (Kb.moved M1)
          clear CS M1 xS mRS mBS OS KS hd1
          have s0 : v1.cell? ⟨S, 0, none⟩ = some (.int .i64 z7) := cell_at xS1 0
          have s1 : v1.cell? ⟨S, 1, none⟩ = some (.int .i64 x) := cell_at xS1 1
          have s2 : v1.cell? ⟨S, 2, none⟩ = some (.int .i64 0) := cell_at xS1 2
          have g2 : v1.frozen? ⟨S, 2, none⟩ = false := frozen_at xS1 2
          have b4 : v1.cell? ⟨B, 4, none⟩ = some (.slice va k vc) := cell_at mB1 4
          have oS : (Value.slice va k vc).ownBlock ≠ some S := fun h => by have := (HOL.out S h).2; omega
          have oB := Pk.own_ne' O1 mB1 (by decide)
          have oR := Pk.own_ne' O1 mR1 (by decide)
          have oc : (Value.slice va k vc).ownBlock ≠ some c := fun h => by have := (HOL.out c h).1; omega
          have hBS : B ≠ S := by omega
          have hSB' : S ≠ B := by omega
          have HX : Hid (∀ w4, ((v1.setCell ⟨S, 2, none⟩ (.int .i64 (x + d9))).alloc (.cells #[.int .i64 z7, .int .i64 x, .int .i64 (x + d9)] 42)).grownBy w4 (Value.slice va k vc).ownBlock → Is W0 a n cap c w4 ∧ Kb c w w4 ∧ w4.heap[S]? = some (.cells #[.int .i64 z7, .int .i64 x, .int .i64 (x + d9)] 42) ∧ w4.heap[B]? = some (.cells #[.int .i64 id, .int .i64 127, .int .i64 0, .int .i64 0, .slice va k vc] 33) ∧ w4.heap[w.heap.size]? = some (Tn.trB ⟨0, 0, 0, 0⟩ none 0 0 33)) := by
            intro w4 G
            have xS2 := heap_old (h_set (i := 2) xS1 (.int .i64 (x + d9))) (.cells #[.int .i64 z7, .int .i64 x, .int .i64 (x + d9)] 42)
            have mB2 := heap_old (h_other (i := 2) mB1 hBS (.int .i64 (x + d9))) (.cells #[.int .i64 z7, .int .i64 x, .int .i64 (x + d9)] 42)
            have mR2 := heap_old (h_other (i := 2) mR1 (by omega : w.heap.size ≠ S) (.int .i64 (x + d9))) (.cells #[.int .i64 z7, .int .i64 x, .int .i64 (x + d9)] 42)
            refine ⟨((C1.set S 2 _ hSc (by omega)).alloc _).grown G oc (fun b hb => by have := (HOL.out b hb).1; omega), ((K1.set S 2 _ (by omega)).alloc _).grown G (fun b hb => (HOL.out b hb).1), ?_, ?_, ?_⟩
            · exact (G.block S (lt_of xS2) (fun h => oS h.symm)).trans xS2
            · exact (G.block B (lt_of mB2) (fun h => oB h.symm)).trans mB2
            · exact (G.block w.heap.size (lt_of mR2) (fun h => oR h.symm)).trans mR2
          have O2 := own_other O1 oS 2 (.int .i64 (x + d9))
          have hbase : w.heap.size ≤ v1.heap.size := K1.size
          have HMV : Hid (_ ∧ _) := ⟨hx0, hx1⟩
          clear O1 K1 C1 mB1 mR1 xS1 HOL oS oB oR
          go_wp2_with (at_builtin; refine wpList_append_own _ rfl _ _ 31 rfl w.heap.size 42 i0 (.agg #[.int .i64 0, .int .i64 0, .int .i64 0]) 3 24 Try.underlying31 hi hz0 hz1 hz2 rfl (by decide) _ _ _ rfl (O2.alloc _) ⟨v1.heap.size, 0, none⟩ 1 1 [.int .i64 z7, .int .i64 x, .int .i64 (x + d9)] rfl rfl ?c1 ?c2 ?c3 ?c4 ?c5 ?_)
          case c1 => intro j u h; have h9 := new3 (v1.setCell ⟨S, 2, none⟩ (.int .i64 (x + d9))) 42 _ _ _ j u h; rw [World.size_setCell] at h9; exact h9
          case c2 => intro u hu; simp at hu; rcases hu with rfl | rfl | rfl <;> rfl
          case c3 => unfold maxLen; have := HKM.out; omega
          case c4 => have := HKM.out; omega
          case c5 => simp; omega
          intro v4 w4 hown4 hgrow _
          obtain ⟨C4, K4, xS4, mB4, mR4⟩ := HX.out w4 hgrow
          rw [scells_snoc l ⟨z7, x, x + d9⟩] at hown4
          have oB4 := Pk.own_ne' hown4 mB4 (by decide)
          obtain ⟨ua, uc, rfl, -⟩ := own_form hown4
          have q4 : w4.cell? ⟨B, 4, none⟩ = some (.slice va k vc) := cell_at mB4 4
          have h4 : w4.frozen? ⟨B, 4, none⟩ = false := frozen_at mB4 4
          have C5 := C4.set B 4 (.slice ua (k + 1) uc) hBc hBW
          have K5 := K4.set B 4 (.slice ua (k + 1) uc) (by omega)
          have mB5 := h_set (i := 4) mB4 (.slice ua (k + 1) uc)
          have mR5 := h_other (i := 4) mR4 hRB' (.slice ua (k + 1) uc)
          have xS5 := h_other (i := 4) xS4 hSB' (.slice ua (k + 1) uc)
          have O5 := own_other hown4 oB4 4 (.slice ua (k + 1) uc)
          have t2 : (w4.setCell ⟨B, 4, none⟩ (.slice ua (k + 1) uc)).cell? ⟨S, 2, none⟩ = some (.int .i64 (x + d9)) := cell_at xS5 2
          clear HX hgrow C4 K4 xS4 mB4 mR4 hown4 oB4 O2 s0 s1 s2 g2 b4
          go_wp2
          clear q4 h4
          generalize w4.setCell ⟨B, 4, none⟩ (.slice ua (k + 1) uc) = V5 at *
          have HBL : Hid (∀ wx, Is W0 a n cap c wx → Calls Try.prog 26 #[.pointer (some ⟨c, 0, none⟩), .int .i64 120] wx fun e w' => (∃ x : Int, e = .returned (.int .i64 x) ∧ 0 ≤ x ∧ (0 < (120 : Int) → x < 120)) ∧ Is W0 a n cap c w' ∧ Moved c wx w') := fun wx h => below_any h 120
          have hw1 : IntKind.i64.wrap (x + d9 + 1) = x + d9 + 1 := by rw [IntKind.wrap_i64]; omega
          go_region_held3 (fun w' => w'.cell? ⟨S, 2, none⟩ = some (.int .i64 (x + d9))) (go_keep) (first
            | (go_at_call 26; refine (HBL.out _ ?_).mono ?_; (first | exact C5 | exact C5.drewN 1); rintro e v6 ⟨⟨y9, rfl, hp0, hp1⟩, C6, M6⟩; have hp2 := hp1 (by omega); have xS6 : v6.heap[S]? = _ := (M6.block _ hSc).trans xS5; have mR6 : v6.heap[w.heap.size]? = _ := (M6.block _ hRc).trans mR5; have mB6 : v6.heap[B]? = _ := (M6.block _ hBc).trans mB5; have O6 : v6.ownsRow w.heap.size 42 3 (.slice ua (k + 1) uc) (k + 1) (scells (l ++ [⟨z7, x, x + d9⟩])) := Cur.owns_moved O5 ⟨M6.size, M6.block⟩ hcw; have K6 : Kb c w v6 := K5.trans (Kb.moved ⟨M6.size, M6.block⟩); have t6 : v6.cell? ⟨S, 2, none⟩ = some (.int .i64 (x + d9)) := cell_at xS6 2; have hw2 : IntKind.i64.wrap (x + d9 + 1 + y9) = x + d9 + 1 + y9 := (by rw [IntKind.wrap_i64]; omega)))
          all_goals
            clear hp1
            go_wp2
            go_roundw
            case rel => exact ⟨k + 1, x + d9 + 1 + y9, y + 1, l ++ [⟨z7, x, x + d9⟩], ua, uc, HKM.out, by go_num, rfl, rfl, by omega, by omega, by omega, by omega, by rw [List.length_append, hlk]; rfl, C6, K6, mR6, mB6, O6⟩
            case measure => have := HKM.out; simp [intOf]; omega
        · obtain rfl : k = m + 2 := by omega
          have hkd : decide (((m + 2 : Nat) : Int) < 2 + (m : Int)) = false := decide_eq_false (by omega)
          have HLN : Hid (l.length = m + 2) := hlk
          have oR := Pk.own_ne' Or mRr (by decide)
          clear hkm hlk
          have b0 : wr.cell? ⟨B, 0, none⟩ = some (.int .i64 id) := cell_at mBr 0
          have b1 : wr.cell? ⟨B, 1, none⟩ = some (.int .i64 127) := cell_at mBr 1
          have b2 : wr.cell? ⟨B, 2, none⟩ = some (.int .i64 0) := cell_at mBr 2
          have b3 : wr.cell? ⟨B, 3, none⟩ = some (.int .i64 0) := cell_at mBr 3
          have b4 : wr.cell? ⟨B, 4, none⟩ = some (.slice va (m + 2) vc) := cell_at mBr 4
          have z0 : wr.cell? ⟨w.heap.size, 0, none⟩ = some (.int .i64 0) := cell_at mRr 0
          have z1 : wr.cell? ⟨w.heap.size, 1, none⟩ = some (.int .i64 0) := cell_at mRr 1
          have z2 : wr.cell? ⟨w.heap.size, 2, none⟩ = some (.int .i64 0) := cell_at mRr 2
          have z3 : wr.cell? ⟨w.heap.size, 3, none⟩ = some (.int .i64 0) := cell_at mRr 3
          have z4 : wr.cell? ⟨w.heap.size, 4, none⟩ = some (.slice none 0 0) := cell_at mRr 4
          have y0 : wr.frozen? ⟨w.heap.size, 0, none⟩ = false := frozen_at mRr 0
          have y1 : wr.frozen? ⟨w.heap.size, 1, none⟩ = false := frozen_at mRr 1
          have y2 : wr.frozen? ⟨w.heap.size, 2, none⟩ = false := frozen_at mRr 2
          have y3 : wr.frozen? ⟨w.heap.size, 3, none⟩ = false := frozen_at mRr 3
          have y4 : wr.frozen? ⟨w.heap.size, 4, none⟩ = false := frozen_at mRr 4
          have HOF : Hid (∀ i u, _) := fun i u => own_other (own_other (own_other (own_other (own_other Or oR 0 (.int .i64 id)) oR 1 (.int .i64 127)) oR 2 (.int .i64 0)) oR 3 (.int .i64 0)) oR i u
          have HCF : Hid (∀ i u, _) := fun i u => ((((Cr.set w.heap.size 0 (.int .i64 id) hRc hW0).set w.heap.size 1 (.int .i64 127) hRc hW0).set w.heap.size 2 (.int .i64 0) hRc hW0).set w.heap.size 3 (.int .i64 0) hRc hW0).set w.heap.size i u hRc hW0
          have HKF : Hid (∀ i u, _) := fun i u => ((((Kr.set w.heap.size 0 (.int .i64 id) (Nat.le_refl _)).set w.heap.size 1 (.int .i64 127) (Nat.le_refl _)).set w.heap.size 2 (.int .i64 0) (Nat.le_refl _)).set w.heap.size 3 (.int .i64 0) (Nat.le_refl _)).set w.heap.size i u (Nat.le_refl _)
          clear Or oR Cr Kr mRr mBr
          go_wp2
          refine bodyPost_ret (v := trV ⟨id, 127, 0, 0⟩ va (m + 2) vc) (by simp [results, Try.results48, go_sem, z0, z1, z2, z3, z4]) rfl ?_
          refine ⟨⟨⟨id, 127, 0, 0⟩, l, va, vc, by rw [HLN.out], rfl, ?_, by rw [HLN.out]; omega, by rw [HLN.out]; omega⟩, HCF.out 4 _, HKF.out 4 _⟩
          rw [HLN.out]
          exact HOF.out 4 _

end Tn
end Go.Proofs.Ytfoccmhmgdengaa

/- Draws for the laws of trains: a train that may be spoilt. -/
namespace Go.Proofs.Ytfoccmhmgdengaa
namespace Tn
open Go.ChangeShapes Go.WideShapes Go.ChangeAt Go.RowKit
open Pk (new_below join_below cell_at heap_new frozen_at lt_of kept heap_old info_of own_form own_below Room)
open Cur (Is Moved Bytes Kb new_any once_any below_any pickInt_any rowOf_new)
set_option linter.unusedSimpArgs false
set_option linter.unusedVariables false

/-- A number stored anywhere into a row of stops leaves a row of stops. -/
theorem Stops.any {w : World} {g j : Nat} {z : Int} {l : List St} (h : Stops w (some ⟨g, 0, none⟩) l) : ∃ l' : List St, l'.length = l.length ∧ Stops (w.setCell ⟨g, j, none⟩ (.int .i64 z)) (some ⟨g, 0, none⟩) l' := by
  rcases h with h | ⟨b, o, e, hb, hc⟩
  · exact ⟨[], by rw [h], Or.inl rfl⟩
  · simp only [Option.some.injEq, Addr.mk.injEq, and_true] at e
    obtain ⟨rfl, rfl⟩ := e
    refine ⟨(List.range l.length).map fun i => ⟨if i * 3 = j then z else (l.getD i z0).st, if i * 3 + 1 = j then z else (l.getD i z0).ar, if i * 3 + 2 = j then z else (l.getD i z0).dp⟩, by simp, Or.inr ⟨g, 0, rfl, by rw [World.size_setCell]; exact hb, fun i hi => ?_⟩⟩
    simp at hi
    obtain ⟨c0, c1, c2⟩ := hc i hi
    rw [Nat.zero_add] at c0 c1 c2
    rw [Nat.zero_add, set_cell c0, set_cell c1, set_cell c2]
    simp only [List.getElem_map, List.getElem_range]
    rw [getD_at l i hi]
    refine ⟨?_, ?_, ?_⟩
    · by_cases h : i * 3 = j <;> simp [h]
    · by_cases h : i * 3 + 1 = j <;> simp [h]
    · by_cases h : i * 3 + 2 = j <;> simp [h]

theorem Stops.first {w : World} {a : Option Addr} {l : List St} (h : Stops w a l) : Stops w a (l.take 1) := by
  rcases h with h | ⟨b, o, e, hb, hc⟩
  · exact Or.inl (by rw [h]; rfl)
  · refine Or.inr ⟨b, o, e, hb, fun i hi => ?_⟩
    have hi2 : i < l.length := by simp at hi; omega
    rw [List.getElem_take]
    exact hc i hi2

theorem Stops.moved {c : Nat} {w w1 : World} {g : Nat} {l : List St} (h : Stops w (some ⟨g, 0, none⟩) l) (M : Moved c w w1) (hg : g ≠ c) : Stops w1 (some ⟨g, 0, none⟩) l :=
  h.away M.size (fun p hp => M.cell hp) hg

theorem station_any {W0 : World} {a : Option Addr} {n cap c : Nat} {w : World} (C : Is W0 a n cap c w) :
    Calls Try.prog 25 #[.pointer (some ⟨c, 0, none⟩)] w fun e w' => (∃ x : Int, e = .returned (.int .i64 x)) ∧ Is W0 a n cap c w' ∧ Moved c w w' := by
  go_enter Try.func25, Try.ntmps25
  go_wp2_with fail
  refine (below_any C _).mono ?_
  rintro e w1 ⟨⟨x, rfl, hx0, hx1⟩, C1, M1⟩
  have hx2 := hx1 (by omega)
  go_wp2
  go_ret
  exact ⟨⟨_, rfl⟩, C1, M1⟩

end Tn
end Go.Proofs.Ytfoccmhmgdengaa

/- Draws for the laws of trains: a train and two stations, a train and a day. -/
namespace Go.Proofs.Ytfoccmhmgdengaa
namespace Tn
open Go.ChangeShapes Go.WideShapes Go.ChangeAt Go.RowKit
open Pk (new_below join_below cell_at heap_new frozen_at lt_of kept heap_old info_of own_form own_below Room)
open Cur (Is Moved Bytes Kb new_any once_any below_any pickInt_any rowOf_new)
set_option linter.unusedSimpArgs false
set_option linter.unusedVariables false

theorem Stops.awayO {w w1 : World} {a : Option Addr} {g : Nat} {l : List St} (h : Stops w a l) (hsz : w1.heap.size = w.heap.size) (hc : ∀ p : Addr, p.block ≠ g → w1.cell? p = w.cell? p) (hne : ∀ b o, a = some ⟨b, o, none⟩ → b ≠ g) : Stops w1 a l := by
  rcases h with h | ⟨b, o, e, hb, hcc⟩
  · exact Or.inl h
  · have hbg := hne b o e
    refine Or.inr ⟨b, o, e, by omega, fun i hi => ?_⟩
    rw [hc ⟨b, o + i * 3, none⟩ hbg, hc ⟨b, o + i * 3 + 1, none⟩ hbg, hc ⟨b, o + i * 3 + 2, none⟩ hbg]
    exact hcc i hi

end Tn
end Go.Proofs.Ytfoccmhmgdengaa

/- Draws for the laws of trains: a list of trains. -/
namespace Go.Proofs.Ytfoccmhmgdengaa
namespace Tn
open Go.ChangeShapes Go.WideShapes Go.ChangeAt Go.RowKit
open Pk (new_below join_below cell_at heap_new frozen_at lt_of kept heap_old info_of own_form own_below Room)
open Cur (Is Moved Bytes Kb new_any once_any below_any pickInt_any rowOf_new)
set_option linter.unusedSimpArgs false
set_option linter.unusedVariables false

/-- The cells of a list of trains, each with where its stops lie. -/
def tcells (xs : List (Tr × Option Addr × Nat)) : List Value := xs.flatMap fun x => [.int .i64 x.1.h.id, .int .i64 x.1.h.dy, .int .i64 x.1.h.co, .int .i64 x.1.h.se, .slice x.2.1 x.1.l.length x.2.2]

theorem tcells_snoc (xs : List (Tr × Option Addr × Nat)) (h : Hd) (l : List St) (va : Option Addr) (vc : Nat) : tcells xs ++ [.int .i64 h.id, .int .i64 h.dy, .int .i64 h.co, .int .i64 h.se, .slice va l.length vc] = tcells (xs ++ [(⟨h, l⟩, va, vc)]) := by simp [tcells]

/-- Each train's stops lie in a row of their own. -/
def RowsT (w : World) (base : Nat) (xs : List (Tr × Option Addr × Nat)) : Prop := ∀ x, x ∈ xs → w.ownsRow base 42 3 (.slice x.2.1 x.1.l.length x.2.2) x.1.l.length (scells x.1.l) ∧ 2 ≤ x.1.l.length ∧ x.1.l.length ≤ 5

theorem own_grown {w w' : World} {row : Option Nat} {base e size : Nat} {v : Value} {n : Nat} {xs : List Value} (h : w.ownsRow base e size v n xs) (G : w.grownBy w' row) (hne : ∀ k, v.ownBlock = some k → some k ≠ row) : w'.ownsRow base e size v n xs := by
  obtain ⟨h1, h2⟩ := h
  refine ⟨h1, ?_⟩
  rcases h2 with h2 | ⟨g, cap, cur, hv, hg, hh, hr⟩
  · exact Or.inl h2
  · exact Or.inr ⟨g, cap, cur, hv, hg, (G.block g (lt_of hh) (hne g (by rw [hv]; rfl))).trans hh, hr⟩

theorem own_two {w : World} {b1 e1 s1 n1 b2 e2 s2 n2 : Nat} {v1 v2 : Value} {x1 x2 : List Value} (h : w.ownsRow b1 e1 s1 v1 n1 x1) (k : w.ownsRow b2 e2 s2 v2 n2 x2) (hne : e1 ≠ e2) : ∀ b, v1.ownBlock = some b → some b ≠ v2.ownBlock := by
  intro b hb hb2
  obtain ⟨-, h2⟩ := h
  obtain ⟨-, k2⟩ := k
  rcases h2 with ⟨hv, -⟩ | ⟨g, cap, cur, hv, -, hh, -⟩
  · rw [hv] at hb; cases hb
  · rcases k2 with ⟨kv, -⟩ | ⟨g', cap', cur', kv, -, kk, -⟩
    · rw [kv] at hb2; cases hb2
    · rw [hv] at hb
      rw [kv] at hb2
      simp only [Value.ownBlock, Option.some.injEq] at hb hb2
      rw [hb, ← hb2.symm.trans rfl] at hh
      subst hb2
      rw [kk] at hh
      simp only [Option.some.injEq, Obj.cells.injEq] at hh
      exact hne hh.2.1.symm

theorem new5 (w : World) (t : TypeId) (a b c d e : Value) : ∀ j u, [a, b, c, d, e][j]? = some u → (w.alloc (.cells #[a, b, c, d, e] t)).cell? (Addr.add ⟨w.heap.size, 0, none⟩ j) = some u := by
  intro j u h
  rw [show Addr.add ⟨w.heap.size, 0, none⟩ j = ⟨w.heap.size, j, none⟩ from by simp [Addr.add]; exact Eq.symm, cell_at (heap_new w _) j, ← h]
  simp

theorem info_train' : (Try.prog.info? 33).map (fun i => (i.zero, i.size, i.bytes)) = some (some (trV ⟨0, 0, 0, 0⟩ none 0 0), 5, 56) := by kernel_rfl

set_option maxRecDepth 100000 in
set_option maxHeartbeats 4000000 in
theorem lines_any {W0 : World} {a : Option Addr} {n cap c : Nat} {w : World} (C : Is W0 a n cap c w) :
    Calls Try.prog 24 #[.pointer (some ⟨c, 0, none⟩)] w fun e w' => (∃ (xs : List (Tr × Option Addr × Nat)) (va : Option Addr) (vc : Nat), e = .returned (.slice va xs.length vc) ∧ w'.ownsRow w.heap.size 33 5 (.slice va xs.length vc) xs.length (tcells xs) ∧ RowsT w' w.heap.size xs ∧ 1 ≤ xs.length ∧ xs.length ≤ 4) ∧ Is W0 a n cap c w' ∧ Kb c w w' := by
  obtain ⟨i0, hi, hz0, hz1, hz2⟩ := info_of info_train'
  have hcw := C.lt
  have hW0 : W0.heap.size ≤ w.heap.size := C.below.size
  have C0 := C.alloc (.cells #[] 33)
  have K0 : Kb c w (w.alloc (.cells #[] 33)) := (Kb.refl c w).alloc _
  have O0 : (w.alloc (.cells #[] 33)).ownsRow w.heap.size 33 5 (.slice (some ⟨w.heap.size, 0, none⟩) 0 0) 0 (tcells []) := ⟨rfl, Or.inr ⟨w.heap.size, 0, #[], rfl, Nat.le_refl _, heap_new _ _, by omega, by unfold maxLen; omega, rfl, rfl⟩⟩
  go_enter Try.func24, Try.ntmps24
  go_wp2_with fail
  refine (below_any C0 _).mono ?_
  rintro e w1 ⟨⟨nn, rfl, hn0, hn1⟩, C1, M1⟩
  have hn2 := hn1 (by omega)
  have O1 := Cur.owns_moved O0 M1 hcw
  have K1 := K0.trans (Kb.moved M1)
  obtain ⟨m, rfl⟩ : ∃ m : Nat, nn = m := ⟨nn.toNat, by omega⟩
  clear hn1 M1 O0 K0 C0 C
  go_wp2
  go_loopw [3, 4, 6] (fun v t i wr => ∃ (k : Nat) (xs : List (Tr × Option Addr × Nat)) (va : Option Addr) (vc : Nat) (y : Int), k ≤ m + 1 ∧ i = .int .i64 k ∧ t = .int .i64 y ∧ 0 ≤ y ∧ y ≤ 60 * (k : Int) ∧ v = .slice va k vc ∧ xs.length = k ∧ Is W0 a n cap c wr ∧ Kb c w wr ∧ wr.ownsRow w.heap.size 33 5 (.slice va k vc) k (tcells xs) ∧ Hid (RowsT wr w.heap.size xs)) (fun _ _ i _ => m + 1 - (intOf i).toNat)
  case atStart => exact ⟨0, [], _, _, 0, by omega, rfl, rfl, by omega, by omega, rfl, rfl, C1, K1, O1, fun x hx => by cases hx⟩
  case round =>
    obtain ⟨k, xs, va, vc, y, hk, rfl, rfl, hy0, hy1, rfl, hlk, Cr, Kr, Or, Rr⟩ := hrel
    clear C1 K1 O1
    by_cases hkm : k < m + 1
    · have hkd : decide ((k : Int) < 1 + (m : Int)) = true := decide_eq_true (by omega)
      have HKM : Hid (_) := hkm
      clear hkm
      go_wp2_with fail
      refine (below_any Cr _).mono ?_
      rintro e w2 ⟨⟨q, rfl, hq0, hq1⟩, C2, M2⟩
      have hq2 := hq1 (by omega)
      have O2 := Cur.owns_moved Or M2 hcw
      have K2 := Kr.trans (Kb.moved M2)
      have R2 : Hid (RowsT w2 w.heap.size xs) := fun x hx => ⟨Cur.owns_moved (Rr.out x hx).1 M2 hcw, (Rr.out x hx).2⟩
      clear Cr Kr Or Rr M2 hq1
      go_wp2_with fail
      refine (train_any C2 _).mono ?_
      rintro e w3 ⟨⟨h, l, ua, uc, rfl, -, T3, ht2, ht5⟩, C3, KT⟩
      have hne : ∀ (e size : Nat) (v : Value) (nn : Nat) (zs : List Value), w2.ownsRow w.heap.size e size v nn zs → v.ownBlock ≠ some c := fun e size v nn zs h9 h8 => by have := (h9.lt c h8).1; omega
      have O3 := own_kb O2 KT (hne _ _ _ _ _ O2)
      have K3 := K2.trans KT
      have T3' := own_base' T3 K2.size
      have R3 : Hid (RowsT w3 w.heap.size (xs ++ [(⟨h, l⟩, ua, uc)])) := by
        intro x hx
        rcases List.mem_append.1 hx with hx | hx
        · exact ⟨own_kb (R2.out x hx).1 KT (hne _ _ _ _ _ (R2.out x hx).1), (R2.out x hx).2⟩
        · obtain rfl := List.mem_singleton.1 hx
          exact ⟨T3', ht2, ht5⟩
      have HX : Hid (∀ w4, (w3.alloc (.cells #[.int .i64 h.id, .int .i64 h.dy, .int .i64 h.co, .int .i64 h.se, .slice ua l.length uc] 33)).grownBy w4 (Value.slice va k vc).ownBlock → Is W0 a n cap c w4 ∧ Kb c w w4 ∧ RowsT w4 w.heap.size (xs ++ [(⟨h, l⟩, ua, uc)])) := by
        intro w4 G
        have NB := new_below w3 (.cells #[.int .i64 h.id, .int .i64 h.dy, .int .i64 h.co, .int .i64 h.se, .slice ua l.length uc] 33)
        have OA := own_below O3 NB (Nat.le_refl _)
        refine ⟨(C3.alloc _).grown G ?_ ?_, (K3.alloc _).grown G (fun b hb => (O3.lt b hb).1), fun x hx => ⟨?_, (R3.out x hx).2⟩⟩
        · intro h9
          have := (O3.lt c h9).1
          omega
        · intro b hb
          have := (O3.lt b hb).1
          omega
        · have HA := own_below (R3.out x hx).1 NB (Nat.le_refl _)
          exact own_grown HA G (own_two HA OA (by decide))
      have hb3 : w.heap.size ≤ w3.heap.size := K3.size
      clear C2 O2 K2 R2 KT hne T3 T3' R3 C3 K3
      go_wp2_with (at_builtin; refine wpList_append_own _ rfl _ _ 24 rfl w.heap.size 33 i0 (trV ⟨0, 0, 0, 0⟩ none 0 0) 5 56 Try.underlying24 hi hz0 hz1 hz2 rfl (by decide) _ _ _ rfl (O3.alloc _) ⟨w3.heap.size, 0, none⟩ 1 1 [.int .i64 h.id, .int .i64 h.dy, .int .i64 h.co, .int .i64 h.se, .slice ua l.length uc] rfl rfl ?c1 ?c2 ?c3 ?c4 ?c5 ?_)
      case c1 => exact new5 _ _ _ _ _ _ _
      case c2 => intro u hu; simp at hu; rcases hu with rfl | rfl | rfl | rfl | rfl <;> rfl
      case c3 => unfold maxLen; have := HKM.out; omega
      case c4 => have := HKM.out; omega
      case c5 => simp; omega
      intro v4 w4 hown4 hgrow _
      obtain ⟨C4, K4, R4⟩ := HX.out w4 hgrow
      rw [tcells_snoc] at hown4
      obtain ⟨xa, xc, rfl, -⟩ := own_form hown4
      have HR4 : Hid (RowsT w4 w.heap.size (xs ++ [(⟨h, l⟩, ua, uc)])) := R4
      clear HX hgrow O3 R4
      go_wp2
      go_roundw
      case rel => exact ⟨k + 1, xs ++ [(⟨h, l⟩, ua, uc)], xa, xc, y + 1 + q, HKM.out, by go_num, rfl, by omega, by omega, rfl, by rw [List.length_append, hlk]; rfl, C4, K4, hown4, HR4⟩
      case measure => have := HKM.out; simp [intOf]; omega
    · obtain rfl : k = m + 1 := by omega
      have hkd : decide (((m + 1 : Nat) : Int) < 1 + (m : Int)) = false := decide_eq_false (by omega)
      have HLN : Hid (xs.length = m + 1) := hlk
      clear hkm hlk
      go_wp2
      go_ret
      refine ⟨⟨xs, va, vc, by rw [HLN.out] <;> rfl, by rw [HLN.out]; exact Or, Rr.out, by rw [HLN.out]; omega, by rw [HLN.out]; omega⟩, Cr, Kr⟩

end Tn
end Go.Proofs.Ytfoccmhmgdengaa

/- A drawn list of trains as a list of trains. -/
namespace Go.Proofs.Ytfoccmhmgdengaa
namespace Tn
open Go.ChangeShapes Go.WideShapes Go.ChangeAt Go.RowKit
open Pk (new_below join_below cell_at heap_new frozen_at lt_of kept heap_old info_of own_form own_below Room)
set_option linter.unusedSimpArgs false
set_option linter.unusedVariables false

theorem tcells_cons (x : Tr × Option Addr × Nat) (xs : List (Tr × Option Addr × Nat)) : tcells (x :: xs) = .int .i64 x.1.h.id :: .int .i64 x.1.h.dy :: .int .i64 x.1.h.co :: .int .i64 x.1.h.se :: .slice x.2.1 x.1.l.length x.2.2 :: tcells xs := by simp [tcells]

theorem tcells_at (xs : List (Tr × Option Addr × Nat)) (k : Nat) (x : Tr × Option Addr × Nat) (h : xs[k]? = some x) : (tcells xs)[k * 5]? = some (.int .i64 x.1.h.id) ∧ (tcells xs)[k * 5 + 1]? = some (.int .i64 x.1.h.dy) ∧ (tcells xs)[k * 5 + 2]? = some (.int .i64 x.1.h.co) ∧ (tcells xs)[k * 5 + 3]? = some (.int .i64 x.1.h.se) ∧ (tcells xs)[k * 5 + 4]? = some (.slice x.2.1 x.1.l.length x.2.2) := by
  induction xs generalizing k with
  | nil => simp at h
  | cons q xs ih =>
    rw [tcells_cons]
    cases k with
    | zero =>
      simp at h
      subst h
      exact ⟨rfl, rfl, rfl, rfl, rfl⟩
    | succ k =>
      have := ih k (by simpa using h)
      rw [show (k + 1) * 5 = k * 5 + 5 by omega]
      exact this

theorem lines_trains {w : World} {base : Nat} {va : Option Addr} {vc : Nat} {xs : List (Tr × Option Addr × Nat)} (h : w.ownsRow base 33 5 (.slice va xs.length vc) xs.length (tcells xs)) (R : RowsT w base xs) : Trains w va (xs.map fun x => x.1) := by
  by_cases h0 : xs = []
  · subst h0
    exact Or.inl rfl
  obtain ⟨hl, h2⟩ := h
  have hpos : 0 < xs.length := List.length_pos_iff.2 h0
  rcases h2 with ⟨hv, hz⟩ | ⟨g, cap, cur, hv, hg, hh, h1, h3, h4, h5⟩
  · omega
  · simp only [Value.slice.injEq] at hv
    obtain ⟨rfl, -, rfl⟩ := hv
    refine Or.inr ⟨g, 0, rfl, lt_of hh, fun i hi => ?_⟩
    have hi' : i < xs.length := by simpa using hi
    obtain ⟨a0, a1, a2, a3, a4⟩ := tcells_at xs i xs[i] (List.getElem?_eq_getElem hi')
    have hc : ∀ o, o < xs.length * 5 → w.cell? ⟨g, o, none⟩ = (tcells xs)[o]? := by
      intro o ho
      rw [cell_at hh, ← h5, List.getElem?_take, if_pos ho, Array.getElem?_toList]
    obtain ⟨O, hl2, hl5⟩ := R xs[i] (List.getElem_mem hi')
    obtain ⟨gi, cp, he, -, -, -⟩ := own_stop O 0 (by omega) (xs[i].1.l[0]'(by omega)) (List.getElem?_eq_getElem (by omega))
    have S := stops_own O
    simp only [Value.slice.injEq] at he
    rw [he.1] at S a4
    simp only [List.getElem_map, Nat.zero_add]
    refine ⟨⟨?_, ?_, ?_, ?_⟩, gi, 0, xs[i].2.2, ?_, S⟩
    · rw [hc _ (by omega)]; exact a0
    · rw [hc _ (by omega)]; exact a1
    · rw [hc _ (by omega)]; exact a2
    · rw [hc _ (by omega)]; exact a3
    · rw [hc _ (by omega)]; exact a4

end Tn
end Go.Proofs.Ytfoccmhmgdengaa

/- The draw of a text that tells which blocks it keeps. -/
namespace Go.Proofs.Ytfoccmhmgdengaa
namespace Cur
open Go.ChangeShapes Go.WideShapes Go.ChangeAt Go.RowKit
set_option linter.unusedSimpArgs false
set_option linter.unusedVariables false

/-- What only makes new blocks is no part of the cursor. -/
theorem Is.kept {W0 : World} {a : Option Addr} {n cap c : Nat} {w w1 : World} (C : Is W0 a n cap c w) (hb : Below w.heap.size w w1) : Is W0 a n cap c w1 := by
  refine ⟨C.below.trans (hb.mono C.below.size), C.ge, Nat.lt_of_lt_of_le C.lt hb.size, C.len, C.code, ?_, ?_, ?_, ?_, ?_⟩
  · rw [hb.cell (p := ⟨c, 0, none⟩) C.lt]; exact C.cb
  · obtain ⟨i, h1, h2⟩ := C.ci
    exact ⟨i, h1, by rw [hb.cell (p := ⟨c, 1, none⟩) C.lt]; exact h2⟩
  · obtain ⟨h0, h2⟩ := C.ch
    exact ⟨h0, by rw [hb.cell (p := ⟨c, 2, none⟩) C.lt]; exact h2⟩
  · rw [hb.frozen (p := ⟨c, 1, none⟩) C.lt]; exact C.fi
  · rw [hb.frozen (p := ⟨c, 2, none⟩) C.lt]; exact C.fh

end Cur
end Go.Proofs.Ytfoccmhmgdengaa

/- The draw of some rides: the model's Earliest, or one ride of a train; a day of it may be turned. -/
namespace Go.Proofs.Ytfoccmhmgdengaa
namespace Rd
open Go.ChangeShapes Go.WideShapes Go.ChangeAt Go.RowKit
open Pk (new_below join_below cell_at heap_new frozen_at lt_of kept heap_old info_of own_form)
open Cur (Is Moved below_any once_any pickInt_any Kb)
open Tn (Tr St Trains Stops Nums station_any)
set_option linter.unusedSimpArgs false
set_option linter.unusedVariables false

/-- Trains none of whose blocks is the cursor's. -/
def TrC (w : World) (c : Nat) (va : Option Addr) (ts : List Tr) : Prop := ∃ b o, va = some ⟨b, o, none⟩ ∧ b ≠ c ∧ b < w.heap.size ∧ ∀ i (h : i < ts.length), Nums w b (o + i * 5) ts[i].h ∧ ∃ bi oi ci, bi ≠ c ∧ bi < w.heap.size ∧ w.cell? ⟨b, o + i * 5 + 4, none⟩ = some (.slice (some ⟨bi, oi, none⟩) ts[i].l.length ci) ∧ Stops w (some ⟨bi, oi, none⟩) ts[i].l

theorem kb_cell {c : Nat} {w w1 : World} (K : Kb c w w1) {p : Addr} (hp : p.block ≠ c) (hl : p.block < w.heap.size) : w1.cell? p = w.cell? p := World.cell?_of_block (K.block p.block hl hp)

theorem stops_kb {c : Nat} {w w1 : World} {b o : Nat} {l : List St} (h : Stops w (some ⟨b, o, none⟩) l) (K : Kb c w w1) (hb : b ≠ c) (hl : b < w.heap.size) : Stops w1 (some ⟨b, o, none⟩) l := by
  rcases h with h | ⟨b', o', e, h1, h2⟩
  · exact Or.inl h
  · simp only [Option.some.injEq, Addr.mk.injEq, and_true] at e
    obtain ⟨rfl, rfl⟩ := e
    refine Or.inr ⟨b, o, rfl, Nat.lt_of_lt_of_le hl K.size, fun i hi => ?_⟩
    rw [kb_cell K (p := ⟨b, o + i * 3, none⟩) hb hl, kb_cell K (p := ⟨b, o + i * 3 + 1, none⟩) hb hl, kb_cell K (p := ⟨b, o + i * 3 + 2, none⟩) hb hl]
    exact h2 i hi

theorem TrC.kb {w w1 : World} {c : Nat} {va : Option Addr} {ts : List Tr} (h : TrC w c va ts) (K : Kb c w w1) : TrC w1 c va ts := by
  obtain ⟨b, o, rfl, h1, h2, h3⟩ := h
  refine ⟨b, o, rfl, h1, Nat.lt_of_lt_of_le h2 K.size, fun i hi => ?_⟩
  obtain ⟨q, bi, oi, ci, k1, k2, k3, k4⟩ := h3 i hi
  exact ⟨q.on fun j => kb_cell K (p := ⟨b, j, none⟩) h1 h2, bi, oi, ci, k1, Nat.lt_of_lt_of_le k2 K.size, by rw [kb_cell K (p := ⟨b, o + i * 5 + 4, none⟩) h1 h2]; exact k3, stops_kb k4 K k1 k2⟩

theorem TrC.trains {w : World} {c : Nat} {va : Option Addr} {ts : List Tr} (h : TrC w c va ts) : Trains w va ts := by
  obtain ⟨b, o, rfl, h1, h2, h3⟩ := h
  refine Or.inr ⟨b, o, rfl, h2, fun i hi => ?_⟩
  obtain ⟨q, bi, oi, ci, k1, k2, k3, k4⟩ := h3 i hi
  exact ⟨q, bi, oi, ci, k3, k4⟩

theorem RideAt.kb {w w1 : World} {base c rc : Nat} {a : Option Addr} {l : List Ri} (h : RideAt w base a rc l) (K : Kb c w w1) (hc : c < base) : RideAt w1 base a rc l := by
  obtain ⟨h1, h2⟩ := h
  refine ⟨h1, ?_⟩
  rcases h2 with h2 | ⟨g, cap, cur, q, hb, hh, hr⟩
  · exact Or.inl h2
  · exact Or.inr ⟨g, cap, cur, q, hb, (K.block g (lt_of hh) (by omega)).trans hh, hr⟩

theorem rcells_day : ∀ (l : List Ri) (i : Nat) (h : i < l.length) (v : Int), (rcells l).set (i * 4 + 1) (.int .i64 v) = rcells (l.set i ⟨l[i].tr, v, l[i].fr, l[i].to⟩)
  | p :: r, 0, _, v => by simp [rcells]
  | p :: r, i + 1, h, v => by
    have := rcells_day r i (by simpa using h) v
    have e : (i + 1) * 4 + 1 = i * 4 + 1 + 1 + 1 + 1 + 1 := by omega
    rw [e]
    simp only [rcells, List.flatMap_cons, List.getElem_cons_succ, List.set_cons_succ, List.cons_append, List.nil_append] at this ⊢
    rw [this]

/-- The day of one ride written. -/
theorem RideAt.day {w : World} {base g i rc : Nat} {l : List Ri} (h : RideAt w base (some ⟨g, 0, none⟩) rc l) (hi : i < l.length) (v : Int) : RideAt (w.setCell ⟨g, i * 4 + 1, none⟩ (.int .i64 v)) base (some ⟨g, 0, none⟩) rc (l.set i ⟨l[i].tr, v, l[i].fr, l[i].to⟩) := by
  have h2 := own_setn (i := i * 4 + 1) h (.int .i64 v)
  rw [rcells_day l i hi v] at h2
  show World.ownsRow _ _ _ _ _ _ _
  rw [List.length_set]
  exact h2

theorem ride_one {w : World} {base : Nat} {x : Ri} (hb : base ≤ w.heap.size) : RideAt (w.alloc (.cells #[.int .i64 x.tr, .int .i64 x.dy, .int .i64 x.fr, .int .i64 x.to] 37)) base (some ⟨w.heap.size, 0, none⟩) 1 [x] := by
  have h := heap_new w (.cells #[.int .i64 x.tr, .int .i64 x.dy, .int .i64 x.fr, .int .i64 x.to] 37)
  exact ⟨rfl, Or.inr ⟨w.heap.size, 1, _, rfl, hb, h, Nat.le_refl _, by simp [maxLen], rfl, rfl⟩⟩

theorem told_len {ts : List Tr} {fr tt day mi : Int} {rs : List Ri} {z : Int} (h : Told ts fr tt day mi rs z true) : 1 ≤ rs.length := by
  rcases h with ⟨-, -, p, h1, -, rfl⟩ | ⟨h, -⟩
  · rw [ridesOf_length]; exact h1.1.2.1
  · cases h

end Rd
end Go.Proofs.Ytfoccmhmgdengaa

/- The draw of lines, two stations, a day and a minute. -/
namespace Go.Proofs.Ytfoccmhmgdengaa
namespace Rd
open Go.ChangeShapes Go.WideShapes Go.ChangeAt Go.RowKit
open Pk (new_below join_below cell_at heap_new frozen_at lt_of kept heap_old info_of own_form)
open Cur (Is Moved below_any once_any pickInt_any Kb rowOf_new Bytes new_any)
open Tn (Tr St Trains Stops Nums lines_any lines_trains)
set_option linter.unusedSimpArgs false
set_option linter.unusedVariables false

theorem trc_of {w : World} {base c : Nat} {va : Option Addr} {vc : Nat} {xs : List (Tr × Option Addr × Nat)} (h : w.ownsRow base 33 5 (.slice va xs.length vc) xs.length (Tn.tcells xs)) (R : Tn.RowsT w base xs) (hc : c < base) (h0 : xs ≠ []) : TrC w c va (xs.map fun x => x.1) := by
  obtain ⟨hl, h2⟩ := h
  have hpos : 0 < xs.length := List.length_pos_iff.2 h0
  rcases h2 with ⟨hv, hz⟩ | ⟨g, cap, cur, hv, hg, hh, h1, h3, h4, h5⟩
  · omega
  · simp only [Value.slice.injEq] at hv
    obtain ⟨rfl, -, rfl⟩ := hv
    refine ⟨g, 0, rfl, by omega, lt_of hh, fun i hi => ?_⟩
    have hi' : i < xs.length := by simpa using hi
    obtain ⟨a0, a1, a2, a3, a4⟩ := Tn.tcells_at xs i xs[i] (List.getElem?_eq_getElem hi')
    have hcc : ∀ o, o < xs.length * 5 → w.cell? ⟨g, o, none⟩ = (Tn.tcells xs)[o]? := by
      intro o ho
      rw [cell_at hh, ← h5, List.getElem?_take, if_pos ho, Array.getElem?_toList]
    obtain ⟨O, hl2, hl5⟩ := R xs[i] (List.getElem_mem hi')
    obtain ⟨gi, cp, he, hge, hlt⟩ := O.form (by omega)
    have S := Tn.stops_own O
    simp only [Value.slice.injEq] at he
    rw [he.1] at S a4
    simp only [List.getElem_map, Nat.zero_add]
    refine ⟨⟨?_, ?_, ?_, ?_⟩, gi, 0, xs[i].2.2, by omega, hlt, ?_, S⟩
    · rw [hcc _ (by omega)]; exact a0
    · rw [hcc _ (by omega)]; exact a1
    · rw [hcc _ (by omega)]; exact a2
    · rw [hcc _ (by omega)]; exact a3
    · rw [hcc _ (by omega)]; exact a4

theorem station_wf {W0 : World} {a : Option Addr} {n cap c : Nat} {w : World} (C : Is W0 a n cap c w) :
    Calls Try.prog 25 #[.pointer (some ⟨c, 0, none⟩)] w fun e w' => (∃ x : Int, e = .returned (.int .i64 x) ∧ 1 ≤ x ∧ x ≤ 8) ∧ Is W0 a n cap c w' ∧ Moved c w w' := by
  go_enter Try.func25, Try.ntmps25
  go_wp2_with fail
  refine (below_any C _).mono ?_
  rintro e w1 ⟨⟨x, rfl, hx0, hx1⟩, C1, M1⟩
  have hx2 := hx1 (by omega)
  go_wp2
  go_ret
  exact ⟨⟨1 + x, by simp, by omega, by omega⟩, C1, M1⟩

set_option maxRecDepth 100000 in
set_option maxHeartbeats 4000000 in
theorem drawEarliest (a : Option Addr) (n cap : Nat) (w : World) (hn : n ≤ 1048576) (B : Bytes w a n) :
    Calls Try.prog 6 #[.slice a n cap] w fun e w' => (∃ (ts : List Tr) (va : Option Addr) (vc : Nat) (fr tt day mi : Int), e = .returned (.tuple #[.slice va ts.length vc, .int .i64 fr, .int .i64 tt, .int .i64 day, .int .i64 mi]) ∧ Trains w' va ts ∧ ts.length ≤ 4 ∧ (∀ t ∈ ts, 2 ≤ t.l.length ∧ t.l.length ≤ 5) ∧ (1 ≤ fr ∧ fr ≤ 8) ∧ (1 ≤ tt ∧ tt ≤ 8)) ∧ Below w.heap.size w w' := by
  go_enter Try.func6, Try.ntmps6
  go_wp2_with fail
  refine (new_any w a n cap hn B).mono ?_
  rintro e w1 ⟨rfl, C1⟩
  go_wp2_with fail
  refine (lines_any C1).mono ?_
  rintro e w2 ⟨⟨xs, va, vc, rfl, OL, RT, hx1, hx4⟩, C2, -⟩
  have T2 : TrC w2 w.heap.size va (xs.map fun x => x.1) := trc_of OL RT C1.lt (by intro e; simp [e] at hx1)
  have hb5 : Hid (∀ t ∈ xs.map (fun x => x.1), 2 ≤ t.l.length ∧ t.l.length ≤ 5) := fun t ht => by
    obtain ⟨x, hx, rfl⟩ := List.mem_map.1 ht
    exact (RT x hx).2
  have hxl : (xs.map fun x => x.1).length = xs.length := List.length_map ..
  rw [← hxl]
  rw [← hxl] at hx4
  clear hxl OL RT hx1 C1 B
  generalize (xs.map fun x => x.1) = ts at *
  clear xs
  have HX4 : Hid (ts.length ≤ 4) := hx4
  clear hx4
  go_wp2_with fail
  refine (station_wf C2).mono ?_
  rintro e w3 ⟨⟨fr, rfl, hf⟩, C3, M3⟩
  have T3 := T2.kb (Kb.moved M3)
  have HF : Hid (1 ≤ fr ∧ fr ≤ 8) := hf
  clear C2 M3 T2 hf
  go_wp2_with fail
  refine (station_wf C3).mono ?_
  rintro e w4 ⟨⟨tt, rfl, ht⟩, C4, M4⟩
  have T4 := T3.kb (Kb.moved M4)
  have HT : Hid (1 ≤ tt ∧ tt ≤ 8) := ht
  clear C3 M4 T3 ht
  go_wp2_with fail
  refine (below_any C4 _).mono ?_
  rintro e w5 ⟨⟨day, rfl, -, -⟩, C5, M5⟩
  have T5 := T4.kb (Kb.moved M5)
  clear C4 M5 T4
  go_wp2_with fail
  refine (below_any C5 _).mono ?_
  rintro e w6 ⟨⟨mi, rfl, -, -⟩, C6, M6⟩
  have T6 := T5.kb (Kb.moved M6)
  clear C5 M6 T5
  go_wp2_with fail
  refine (below_any C6 _).mono ?_
  rintro e w7 ⟨⟨sv, rfl, -, -⟩, C7, M7⟩
  have T7 := T6.kb (Kb.moved M7)
  clear C6 M7 T6
  by_cases g0 : sv = 0
  · have gb0 : (sv == 0) = true := by simp [g0]
    have gd0 : decide (sv = 0) = true := decide_eq_true g0
    have C8 := C7.alloc (.cells #[.int .i64 (-1), .int .i64 0, .int .i64 90000, .int .i64 90001] 3)
    have T8 := T7.kb (Kb.of w.heap.size (new_below w7 (.cells #[.int .i64 (-1), .int .i64 0, .int .i64 90000, .int .i64 90001] 3)))
    have RW : Cur.RowOf (fun _ => True) (w7.alloc (.cells #[.int .i64 (-1), .int .i64 0, .int .i64 90000, .int .i64 90001] 3)) w7.heap.size 4 := rowOf_new (fun _ => True) w7 [-1, 0, 90000, 90001] 3 (fun z _ => trivial)
    have hc1 : w7.heap.size ≠ w.heap.size := by have := C7.lt; omega
    have HPK : Hid (∀ _ : Unit, _) := fun _ => pickInt_any C8 (fun _ => True) w7.heap.size 4 4 hc1 (by omega) (by omega) RW
    clear C7 T7 RW hc1 C8
    go_wp2_with fail
    refine (HPK.out ()).mono ?_
    rintro e w9 ⟨⟨kk, rfl, -⟩, C9, M9⟩
    have T9 := T8.kb (Kb.moved M9)
    clear HPK T8 M9
    go_wp2
    refine bodyPost_ret (v := .tuple #[.slice va ts.length vc, .int .i64 fr, .int .i64 tt, .int .i64 kk, .int .i64 mi]) (by simp [results, Try.results6, go_sem]) rfl ?_
    exact ⟨⟨ts, va, vc, fr, tt, kk, mi, rfl, T9.trains, HX4.out, hb5.out, HF.out, HT.out⟩, C9.below⟩
  · have gb0 : (sv == 0) = false := by simp [g0]
    have gd0 : decide (sv = 0) = false := decide_eq_false g0
    by_cases g1 : sv = 1
    · have gb1 : (sv == 1) = true := by simp [g1]
      have gd1 : decide (sv = 1) = true := decide_eq_true g1
      have C8 := C7.alloc (.cells #[.int .i64 (-1), .int .i64 1439, .int .i64 1440] 3)
      have T8 := T7.kb (Kb.of w.heap.size (new_below w7 (.cells #[.int .i64 (-1), .int .i64 1439, .int .i64 1440] 3)))
      have RW : Cur.RowOf (fun _ => True) (w7.alloc (.cells #[.int .i64 (-1), .int .i64 1439, .int .i64 1440] 3)) w7.heap.size 3 := rowOf_new (fun _ => True) w7 [-1, 1439, 1440] 3 (fun z _ => trivial)
      have hc1 : w7.heap.size ≠ w.heap.size := by have := C7.lt; omega
      have HPK : Hid (∀ _ : Unit, _) := fun _ => pickInt_any C8 (fun _ => True) w7.heap.size 3 3 hc1 (by omega) (by omega) RW
      clear C7 T7 RW hc1 C8
      go_wp2_with fail
      refine (HPK.out ()).mono ?_
      rintro e w9 ⟨⟨kk, rfl, -⟩, C9, M9⟩
      have T9 := T8.kb (Kb.moved M9)
      clear HPK T8 M9
      go_wp2
      refine bodyPost_ret (v := .tuple #[.slice va ts.length vc, .int .i64 fr, .int .i64 tt, .int .i64 day, .int .i64 kk]) (by simp [results, Try.results6, go_sem]) rfl ?_
      exact ⟨⟨ts, va, vc, fr, tt, day, kk, rfl, T9.trains, HX4.out, hb5.out, HF.out, HT.out⟩, C9.below⟩
    · have gb1 : (sv == 1) = false := by simp [g1]
      have gd1 : decide (sv = 1) = false := decide_eq_false g1
      go_wp2
      refine bodyPost_ret (v := .tuple #[.slice va ts.length vc, .int .i64 fr, .int .i64 tt, .int .i64 day, .int .i64 mi]) (by simp [results, Try.results6, go_sem]) rfl ?_
      exact ⟨⟨ts, va, vc, fr, tt, day, mi, rfl, T7.trains, HX4.out, hb5.out, HF.out, HT.out⟩, C7.below⟩

end Rd
end Go.Proofs.Ytfoccmhmgdengaa

/- The contract of RidesOk of the program. -/
namespace Go.Proofs.Ytfoccmhmgdengaa
namespace Tn
open Go.ChangeShapes Go.WideShapes Go.ChangeAt Go.RowKit
open Pk (new_below join_below cell_at heap_new frozen_at lt_of kept heap_old info_of own_form own_below Room)
open Rd (Ri Rides)
set_option linter.unusedSimpArgs false
set_option linter.unusedVariables false

set_option maxHeartbeats 4000000 in
theorem implRides_val (a : Option Addr) (ts : List Tr) (cap : Nat) (b : Option Addr) (rs : List Ri) (cap2 : Nat) (w : World) (hn : ts.length ≤ 1048576) (hs : ∀ i (h : i < ts.length), ts[i].l.length ≤ 1048576) (hr : rs.length ≤ maxLen) (I : Trains w a ts) (J : Rides w b rs) :
    Calls Try.prog 12 #[.slice a ts.length cap, .slice b rs.length cap2] w fun e w' => e = .returned (.bool (ridesB ts rs)) ∧ Below w.heap.size w w' := by
  have HL : Hid (∀ w, Trains w a ts → _) := fun w I => implLines_val a ts cap w (by unfold maxLen; omega) (fun i h => by have := hs i h; unfold maxLen; omega) I
  have HI : Hid (∀ w, _) := fun w => between_val (rs.length : Int) 1 6 w
  have HT : Hid (∀ r w, Trains w a ts → _) := fun r w I => hopOf_val a ts cap r w hn hs I
  have HO : Hid (ridesB ts rs = (linesB ts && (inB rs.length 1 6 && ridesFrom ts rs 0))) := rfl
  have H16 : Hid (inB (rs.length : Int) 1 6 = true → 1 ≤ (rs.length : Int) ∧ (rs.length : Int) ≤ 6) := inB_yes
  unfold maxLen at hr
  clear hn hs
  generalize ridesB ts rs = R at *
  generalize linesB ts = b1 at *
  generalize inB (rs.length : Int) 1 6 = b2 at *
  go_enter Try.func12, Try.ntmps12
  go_wp2_with fail
  refine (HL.out _ I).mono ?_
  rintro e w1 ⟨rfl, L1⟩
  cases b1
  · go_wp2
    go_ret
    exact ⟨by rw [HO.out] <;> rfl, L1⟩
  go_wp2_with fail
  refine (HI.out _).mono ?_
  rintro e w2 ⟨rfl, rfl⟩
  cases b2
  · go_wp2
    go_ret
    exact ⟨by rw [HO.out] <;> rfl, L1⟩
  have HOK : Hid (R = ridesFrom ts rs 0) := HO.out
  obtain ⟨h1, h6⟩ := H16.out (by simp)
  clear HL HI HO H16
  obtain ⟨x, o, rfl, hlt, -, -, c2, -⟩ := (J.on L1).at 0 (by omega)
  rw [Nat.zero_mul, Nat.add_zero] at c2
  have hst0 : stAt rs 0 = (rs[0]'(by omega)).fr := by unfold stAt; rw [if_pos rfl, getR_at rs 0 (by omega)]
  have hy0 : yAt ts rs 0 = 0 := rfl
  rw [← hst0] at c2
  have x0 := heap_new w2 (.cells #[.int .i64 (stAt rs 0), .int .i64 0, .int .i64 0] 61)
  have LV := join_below L1 (new_below w2 (.cells #[.int .i64 (stAt rs 0), .int .i64 0, .int .i64 0] 61))
  have HV0 : Hid (w.heap.size ≤ w2.heap.size) := L1.size
  have HST : Hid (_ ∧ _) := ⟨hst0, hy0⟩
  clear hst0 hy0
  generalize hs00 : stAt rs 0 = s0 at *
  have HS0 : Hid (s0 = stAt rs 0) := hs00.symm
  clear hs00
  go_wp2
  generalize w2.alloc (.cells #[.int .i64 s0, .int .i64 0, .int .i64 0] 61) = W at *
  generalize w2.heap.size = V at *
  go_loopw [26] (fun i wr => ∃ k : Nat, k ≤ rs.length ∧ i = .int .i64 k ∧ Below w.heap.size w wr ∧ Hid (ridesFrom ts rs 0 = ridesFrom ts rs k) ∧ ∃ s y : Int, wr.heap[V]? = some (.cells #[.int .i64 s, .int .i64 y, .int .i64 k] 61) ∧ Hid (s = stAt rs k ∧ y = yAt ts rs k)) (fun i _ => rs.length - (intOf i).toNat)
  case atStart => exact ⟨0, by omega, rfl, LV, rfl, s0, 0, x0, ⟨HS0.out, rfl⟩⟩
  case round =>
    obtain ⟨k, hk, rfl, L, H, s, y, xV, HSY⟩ := hrel
    by_cases hkn : k < rs.length
    · obtain ⟨x', o', he, hlt', p0, p1, p2, p3⟩ := (J.on L).at k hkn
      simp only [Option.some.injEq, Addr.mk.injEq, and_true] at he
      obtain ⟨rfl, rfl⟩ := he
      have HS : Hid (_) := ridesFrom_step ts rs k hkn
      have HB : Hid (_) := rideB_at ts rs k hkn
      rw [← HSY.out.1, ← HSY.out.2] at HB
      have HNN : Hid (_ ∧ _) := ⟨st_next rs k hkn, y_next ts rs k hkn⟩
      have HBD : Hid (hopB ts rs[k] = true → _) := fun h => hop_bds h
      have HRQ : Hid (hopB ts rs[k] = true → hopR ts rs[k] = rs[k]) := by intro h; unfold hopR; rw [h]; rfl
      have HTk : Hid (∀ w, Trains w a ts → _) := fun w I => HT.out rs[k] w I
      generalize rs[k] = r at *
      have NB := new_below wr (.cells #[.int .i64 r.tr, .int .i64 r.dy, .int .i64 r.fr, .int .i64 r.to] 37)
      have x1 := heap_new wr (.cells #[.int .i64 r.tr, .int .i64 r.dy, .int .i64 r.fr, .int .i64 r.to] 37)
      have xV1 := kept NB (lt_of xV) xV
      have L3 := join_below L NB
      have hVw : V < wr.heap.size := lt_of xV
      have H4 := HTk.out _ (I.on L3)
      clear HTk
      generalize hopR ts r = q at *
      generalize hopB ts r = hb at *
      generalize hopD ts r = d at *
      generalize hopA ts r = zz at *
      generalize rideB ts rs k = lb at *
      go_wp2_with fail
      refine H4.mono ?_
      rintro e w5 ⟨rfl, L5⟩
      have L6 := join_below L3 L5
      have xV5 := kept L5 (lt_of xV1) xV1
      have NH := new_below w5 (.cells #[.int .i64 q.tr, .int .i64 q.dy, .int .i64 q.fr, .int .i64 q.to, .int .i64 d, .int .i64 zz] 76)
      have xH := heap_new w5 (.cells #[.int .i64 q.tr, .int .i64 q.dy, .int .i64 q.fr, .int .i64 q.to, .int .i64 d, .int .i64 zz] 76)
      have xV6 := kept NH (lt_of xV5) xV5
      have L7 := join_below L6 NH
      clear H4 p0 p1 p2 p3 NB x1 xV1 L3 L L5 xV5 NH xV
      cases hb
      · have HE : Hid (ridesFrom ts rs 0 = false) := by show _ = _; rw [H.out, HS.out, HB.out]; rfl
        go_wp2
        go_ret
        exact ⟨by rw [HOK.out, HE.out] <;> rfl, L7⟩
      obtain ⟨⟨hd0, hd1⟩, hz2, hz3⟩ := HBD.out (by simp)
      obtain rfl : q = r := HRQ.out (by simp)
      have HTK : Hid (∀ w, _) := fun w => takes_val q d zz s y k w
      have HBH : Hid (∀ w, _) := fun w => behind_val q d zz s y k w hz2 hz3 (by omega) (by omega)
      have v0 : (w5.alloc (.cells #[.int .i64 q.tr, .int .i64 q.dy, .int .i64 q.fr, .int .i64 q.to, .int .i64 d, .int .i64 zz] 76)).cell? ⟨V, 0, none⟩ = some (.int .i64 s) := cell_at xV6 0
      have v1 : (w5.alloc (.cells #[.int .i64 q.tr, .int .i64 q.dy, .int .i64 q.fr, .int .i64 q.to, .int .i64 d, .int .i64 zz] 76)).cell? ⟨V, 1, none⟩ = some (.int .i64 y) := cell_at xV6 1
      have v2 : (w5.alloc (.cells #[.int .i64 q.tr, .int .i64 q.dy, .int .i64 q.fr, .int .i64 q.to, .int .i64 d, .int .i64 zz] 76)).cell? ⟨V, 2, none⟩ = some (.int .i64 k) := cell_at xV6 2
      go_wp2_with fail
      refine (HTK.out _).mono ?_
      rintro e w8 ⟨rfl, L8⟩
      have L9 := join_below L7 L8
      have xV8 := kept L8 (lt_of xV6) xV6
      have xH8 := kept L8 (lt_of xH) xH
      clear v0 v1 v2 xV6 xH L7 L8 HTK L6
      cases htk : ((q.fr == s) && decide (y ≤ d))
      · have HE : Hid (ridesFrom ts rs 0 = false) := by show _ = _; rw [H.out, HS.out, HB.out, htk]; rfl
        clear HB htk
        go_wp2
        go_ret
        exact ⟨by rw [HOK.out, HE.out] <;> rfl, L9⟩
      have HE : Hid (ridesFrom ts rs 0 = ridesFrom ts rs (k + 1)) := by show _ = _; rw [H.out, HS.out, HB.out, htk]; rfl
      have v0 : w8.cell? ⟨V, 0, none⟩ = some (.int .i64 s) := cell_at xV8 0
      have v1 : w8.cell? ⟨V, 1, none⟩ = some (.int .i64 y) := cell_at xV8 1
      have v2 : w8.cell? ⟨V, 2, none⟩ = some (.int .i64 k) := cell_at xV8 2
      have g0 : w8.cell? ⟨w5.heap.size, 0, none⟩ = some (.int .i64 q.tr) := cell_at xH8 0
      have g1 : w8.cell? ⟨w5.heap.size, 1, none⟩ = some (.int .i64 q.dy) := cell_at xH8 1
      have g2 : w8.cell? ⟨w5.heap.size, 2, none⟩ = some (.int .i64 q.fr) := cell_at xH8 2
      have g3 : w8.cell? ⟨w5.heap.size, 3, none⟩ = some (.int .i64 q.to) := cell_at xH8 3
      have g4 : w8.cell? ⟨w5.heap.size, 4, none⟩ = some (.int .i64 d) := cell_at xH8 4
      have g5 : w8.cell? ⟨w5.heap.size, 5, none⟩ = some (.int .i64 zz) := cell_at xH8 5
      clear HB H HS
      go_wp2_with fail
      refine (HBH.out _).mono ?_
      rintro e w10 ⟨rfl, L10⟩
      have L11 := join_below L9 L10
      have xV10 := kept L10 (lt_of xV8) xV8
      have y0 := frozen_at xV10 0
      have y1 := frozen_at xV10 1
      have y2 := frozen_at xV10 2
      have xN := h_set (i := 2) (h_set (i := 1) (h_set (i := 0) xV10 (.int .i64 q.to)) (.int .i64 (zz + 3))) (.int .i64 ((k : Int) + 1))
      have LN := ((L11.setCell (p := ⟨V, 0, none⟩) HV0.out (.int .i64 q.to)).setCell (p := ⟨V, 1, none⟩) HV0.out (.int .i64 (zz + 3))).setCell (p := ⟨V, 2, none⟩) HV0.out (.int .i64 ((k : Int) + 1))
      have HXN : Hid (_) := xN
      have HLN : Hid (_) := LN
      have u0 : w10.cell? ⟨V, 0, none⟩ = some (.int .i64 s) := cell_at xV10 0
      have u1 : w10.cell? ⟨V, 1, none⟩ = some (.int .i64 y) := cell_at xV10 1
      have u2 : w10.cell? ⟨V, 2, none⟩ = some (.int .i64 k) := cell_at xV10 2
      have HSX : Hid (q.to = stAt rs (k + 1) ∧ zz + 3 = yAt ts rs (k + 1)) := ⟨HNN.out.1.symm, HNN.out.2.symm⟩
      clear v0 v1 v2 g0 g1 g2 g3 g4 g5 xV8 xH8 xV10 L9 L10 L11 HBH xN LN HNN HSY
      go_wp2
      go_roundw
      case rel => exact ⟨k + 1, by omega, by go_num, HLN.out, HE, q.to, zz + 3, HXN.out, HSX⟩
      case measure => simp [intOf]; omega
    · have HE : Hid (ridesFrom ts rs 0 = true) := by show _ = _; rw [H.out, ridesFrom_end ts rs k hkn]
      go_wp2
      go_ret
      exact ⟨by rw [HOK.out, HE.out] <;> rfl, L⟩

end Tn
end Go.Proofs.Ytfoccmhmgdengaa
