/- Draws for the laws of the tariff: what BaseCost is asked, what WayCost is asked; the laws' comparison of numbers. -/
import Derived.Test.YtmhongcbgokiladCurTf2
import Derived.Test.YtmhongcbgokiladTfBaseS
import Derived.Test.YtmhongcbgokiladTfInts
namespace Go.Proofs.Ytmhongcbgokilad
namespace Tf
open Go.ChangeShapes Go.WideShapes Go.ChangeAt Go.RowKit
open Pk (new_below join_below cell_at heap_new frozen_at lt_of kept heap_old info_of own_form own_below Room Drawn)
open Cur (Is Moved Bytes Kb new_any once_any below_any pickInt_any rowOf_new)
set_option linter.unusedSimpArgs false
set_option linter.unusedVariables false

theorem is_on {W0 : World} {a : Option Addr} {n cap c : Nat} {w w1 : World} (C : Is W0 a n cap c w) (L : Below w.heap.size w w1) : Is W0 a n cap c w1 := by
  refine ⟨C.below.trans (L.mono C.below.size), C.ge, Nat.lt_of_lt_of_le C.lt L.size, C.len, C.code, ?_, ?_, ?_, ?_, ?_⟩
  · rw [L.cell (p := ⟨c, 0, none⟩) C.lt]; exact C.cb
  · obtain ⟨i, h1, h2⟩ := C.ci
    exact ⟨i, h1, by rw [L.cell (p := ⟨c, 1, none⟩) C.lt]; exact h2⟩
  · obtain ⟨h0, h2⟩ := C.ch
    exact ⟨h0, by rw [L.cell (p := ⟨c, 2, none⟩) C.lt]; exact h2⟩
  · rw [L.frozen (p := ⟨c, 1, none⟩) C.lt]; exact C.fi
  · rw [L.frozen (p := ⟨c, 2, none⟩) C.lt]; exact C.fh

/-- Numbers that begin a block lie in no cursor. -/
theorem ints_not {W0 : World} {a : Option Addr} {n cap c : Nat} {w : World} (C : Is W0 a n cap c w) {g : Nat} {z : List Int} (h : Ints w (some ⟨g, 0, none⟩) z) (hz : z ≠ []) : g ≠ c := by
  intro e
  subst e
  obtain ⟨b, o, e1, -, h2⟩ := h.at 0 (List.length_pos_iff.2 hz)
  simp only [Option.some.injEq, Addr.mk.injEq] at e1
  obtain ⟨rfl, rfl, -⟩ := e1
  rw [Nat.zero_add] at h2
  have h3 := C.cb
  rw [h3] at h2
  cases h2

theorem ints_kb {W0 : World} {a : Option Addr} {n cap c : Nat} {w w1 : World} (C : Is W0 a n cap c w) {ad : Option Addr} {z : List Int} (h : Ints w ad z) (hz : z = [] ∨ ∃ g, ad = some ⟨g, 0, none⟩) (K : Kb c w w1) : Ints w1 ad z := by
  by_cases h0 : z = []
  · exact Or.inl h0
  · obtain ⟨g, rfl⟩ := hz.resolve_left h0
    have hne := ints_not C h h0
    rcases h with h | ⟨b, o, e, hb, hc⟩
    · exact Or.inl h
    · simp only [Option.some.injEq, Addr.mk.injEq] at e
      obtain ⟨rfl, rfl, -⟩ := e
      exact Or.inr ⟨g, 0, rfl, Nat.lt_of_lt_of_le hb K.size, fun i hi => by rw [World.cell?_of_block (a := ⟨g, 0 + i, none⟩) (K.block g hb hne)]; exact hc i hi⟩

theorem zc_snoc (l : List Int) (x : Int) : zc l ++ [.int .i64 x] = zc (l ++ [x]) := by simp [zc]

theorem new1 (w : World) (t : TypeId) (a : Value) : ∀ j u, [a][j]? = some u → (w.alloc (.cells #[a] t)).cell? (Addr.add ⟨w.heap.size, 0, none⟩ j) = some u := by
  intro j u h
  rw [show Addr.add ⟨w.heap.size, 0, none⟩ j = ⟨w.heap.size, j, none⟩ from by simp [Addr.add]; exact Eq.symm, cell_at (heap_new w _) j, ← h]
  simp

theorem own_two {w : World} {b1 e1 s1 n1 b2 e2 s2 n2 : Nat} {v1 v2 : Value} {x1 x2 : List Value} (h : w.ownsRow b1 e1 s1 v1 n1 x1) (k : w.ownsRow b2 e2 s2 v2 n2 x2) (hne : e1 ≠ e2) : ∀ b, v1.ownBlock = some b → some b ≠ v2.ownBlock := by
  intro b hb he
  obtain ⟨-, h2⟩ := k
  rcases h2 with ⟨hv, -⟩ | ⟨g, cap, cur, hv, -, hh, -⟩
  · rw [hv] at he; cases he
  · exact Pk.own_ne' h hh (fun e => hne e.symm) (by rw [hb]; rw [he, hv]; rfl)

theorem own_grown {w w' : World} {row : Option Nat} {base e size : Nat} {v : Value} {n : Nat} {xs : List Value} (h : w.ownsRow base e size v n xs) (G : w.grownBy w' row) (hne : ∀ k, v.ownBlock = some k → some k ≠ row) : w'.ownsRow base e size v n xs := by
  obtain ⟨hl, h2⟩ := h
  refine ⟨hl, ?_⟩
  rcases h2 with h2 | ⟨g, cap, cur, hv, hg, hh, hr⟩
  · exact Or.inl h2
  · refine Or.inr ⟨g, cap, cur, hv, hg, ?_, hr⟩
    rw [G.block g (lt_of hh) (hne g (by rw [hv]; rfl))]
    exact hh

set_option maxHeartbeats 1000000 in
theorem sameInts_same (a b : Option Addr) (zs : List Int) (c1 c2 : Nat) (w : World) (hz : zs.length ≤ 1048576) (I : Ints w a zs) (J : Ints w b zs) :
    Calls Try.prog 30 #[.slice a zs.length c1, .slice b zs.length c2] w fun e w' => e = .returned (.bool true) ∧ Drawn w w' := by
  go_enter Try.func30, Try.ntmps30
  go_wp2
  go_loopw [5] (fun i wr => ∃ (k n : Nat), k ≤ zs.length ∧ i = .int .i64 k ∧ wr = w.drewN n) (fun i _ => zs.length - (intOf i).toNat)
  case atStart => exact ⟨0, 0, by omega, rfl, rfl⟩
  case round =>
    obtain ⟨k, n, hk, rfl, rfl⟩ := hrel
    by_cases hkn : k < zs.length
    · obtain ⟨x, o, rfl, hx, hxc⟩ := I.at k hkn
      obtain ⟨y, u, rfl, hy, hyc⟩ := J.at k hkn
      generalize zs[k] = z at *
      go_wp2
      go_quiet (fail)
      go_wp2
      go_roundw
      case rel => exact ⟨k + 1, n + nq, by omega, by go_num, rfl⟩
      case measure => simp [intOf]; omega
    · go_wp2
      go_ret
      exact ⟨rfl, n, rfl⟩

set_option maxHeartbeats 2000000 in
theorem drawBaseCost (a : Option Addr) (n cap : Nat) (w : World) (hn : n ≤ 1048576) (B : Bytes w a n) :
    Calls Try.prog 25 #[.slice a n cap] w fun e w' => (∃ (l : List Ed) (va : Option Addr) (vc : Nat) (x y : Int), e = .returned (.tuple #[.slice va l.length vc, .int .i64 x, .int .i64 y]) ∧ l.length ≤ 1000 ∧ Edges w' va l) ∧ Below w.heap.size w w' := by
  go_enter Try.func25, Try.ntmps25
  go_wp2_with fail
  refine (new_any _ a n cap hn B).mono ?_
  rintro e w1 ⟨rfl, C1⟩
  go_wp2_with fail
  refine (tariff_any C1).mono ?_
  rintro e w2 ⟨⟨l, va, vc, rfl, hl, O2⟩, C2, -⟩
  have hne : (Value.slice va l.length vc).ownBlock ≠ some w.heap.size := fun h => by have := (O2.lt _ h).1; have := C1.lt; omega
  clear C1
  go_wp2_with fail
  refine (end_any C2).mono ?_
  rintro e w3 ⟨⟨x, rfl⟩, C3, K3⟩
  have O3 := own_kb O2 K3 hne
  clear C2 K3 O2
  go_wp2_with fail
  refine (end_any C3).mono ?_
  rintro e w4 ⟨⟨y, rfl⟩, C4, K4⟩
  have O4 := own_kb O3 K4 hne
  clear C3 K4 O3
  have HE := edges_own O4
  have HL := C4.below
  clear C4 O4
  go_wp2
  refine bodyPost_ret (v := .tuple #[.slice va l.length vc, .int .i64 x, .int .i64 y]) (by simp [results, Try.results25, go_sem]) rfl ?_
  exact ⟨⟨l, va, vc, _, _, rfl, hl, HE⟩, HL⟩

set_option maxHeartbeats 2000000 in
theorem drawWayCost (a : Option Addr) (n cap : Nat) (w : World) (hn : n ≤ 1048576) (B : Bytes w a n) :
    Calls Try.prog 31 #[.slice a n cap] w fun e w' => (∃ (l : List Ed) (va : Option Addr) (vc : Nat) (z : List Int) (ua : Option Addr) (uc : Nat), e = .returned (.tuple #[.slice va l.length vc, .slice ua z.length uc]) ∧ l.length ≤ 1000 ∧ z.length ≤ 402 ∧ Edges w' va l ∧ Ints w' ua z) ∧ Below w.heap.size w w' := by
  obtain ⟨i0, hi, hz0, hz1, hz2⟩ := info_of intInfo
  go_enter Try.func31, Try.ntmps31
  go_wp2_with fail
  refine (new_any _ a n cap hn B).mono ?_
  rintro e w1 ⟨rfl, C1⟩
  have hcw := C1.lt
  go_wp2_with fail
  refine (tariff_any C1).mono ?_
  rintro e w2 ⟨⟨l, va, vc, rfl, hl, O2⟩, C2, KT⟩
  have hne : (Value.slice va l.length vc).ownBlock ≠ some w.heap.size := fun h => by have := (O2.lt _ h).1; have := C1.lt; omega
  clear C1
  go_wp2_with fail
  refine (end_any C2).mono ?_
  rintro e w3 ⟨⟨x, rfl⟩, C3, K3⟩
  have O3 := own_kb O2 K3 hne
  have KA := KT.trans K3
  clear C2 K3 O2 KT
  go_wp2_with fail
  refine (end_any C3).mono ?_
  rintro e w4 ⟨⟨y, rfl⟩, C4, K4⟩
  have O4 := own_kb O3 K4 hne
  have KB := KA.trans K4
  clear C3 K4 O3 KA
  go_wp2_with fail
  refine (specCheap_val va l vc x y _ (by unfold maxLen; omega) (edges_own O4)).mono ?_
  rintro e w5 ⟨r, ad, cp, -, rfl, hlen, S5, L5, had⟩
  have C5 := is_on C4 L5
  have O5 := own_below O4 L5 (Nat.le_refl _)
  have K5 := KB.trans (Kb.of _ L5)
  clear C4 O4 L5 KB
  generalize r.isSome = B at *
  generalize sOf r = s at *
  cases B
  · have C6 := C5
    have O6 := O5
    have S6 := S5
    have K6 := K5
    clear C5 O5 S5 K5
    have CN := C6.alloc (.cells #[] 3)
    have ON := O6.alloc (.cells #[] 3)
    have KN := K6.alloc (.cells #[] 3)
    have ZN := own_empty w5 w1.heap.size 3 1 K6.size
    clear C6 O6 K6 S6 hlen
    go_wp2_with fail
    refine (below_any CN _).mono ?_
    rintro e w7 ⟨⟨nn, rfl, hn0, hn1⟩, C7, M7⟩
    have hn2 := hn1 (by omega)
    have O7 := own_kb ON (Kb.moved M7) hne
    have Z7 := Cur.owns_moved ZN M7 hcw
    have K7 := KN.trans (Kb.moved M7)
    obtain ⟨m, rfl⟩ : ∃ m : Nat, nn = m := ⟨nn.toNat, by omega⟩
    clear CN ON ZN KN M7 hn1
    go_wp2
    go_loopw [6, 9] (fun v i wr => ∃ (k : Nat) (z : List Int) (ua : Option Addr) (uc : Nat), k ≤ m ∧ i = .int .i64 k ∧ v = .slice ua k uc ∧ z.length = k ∧ Kb w.heap.size w1 wr ∧ Is w a n cap w.heap.size wr ∧ wr.ownsRow w1.heap.size 115 3 (.slice va l.length vc) l.length (ecells l) ∧ wr.ownsRow w1.heap.size 3 1 (.slice ua k uc) k (zc z)) (fun _ i _ => m - (intOf i).toNat)
    case atStart => exact ⟨0, [], _, _, by omega, rfl, rfl, rfl, K7, C7, O7, Z7⟩
    case round =>
      clear K7 C7 O7 Z7
      obtain ⟨k, z, ua, uc, hk, rfl, rfl, hzk, Kr, Cr, Or, Zr⟩ := hrel
      by_cases hkm : k < m
      · go_wp2_with fail
        refine (end_any Cr).mono ?_
        rintro e v1 ⟨⟨q, rfl⟩, C1, KE⟩
        have hnz : (Value.slice ua k uc).ownBlock ≠ some w.heap.size := fun h => by have := (Zr.lt _ h).1; omega
        have O1 := own_kb Or KE hne
        have Z1 := own_kb Zr KE hnz
        have K1 := Kr.trans KE
        have hb1 : w1.heap.size ≤ v1.heap.size := K1.size
        have HX : Hid (∀ w4, (v1.alloc (.cells #[.int .i64 q] 3)).grownBy w4 (Value.slice ua k uc).ownBlock → Kb w.heap.size w1 w4 ∧ Is w a n cap w.heap.size w4 ∧ w4.ownsRow w1.heap.size 115 3 (.slice va l.length vc) l.length (ecells l)) := by
          intro w4 G
          have NB := new_below v1 (.cells #[.int .i64 q] 3)
          have HA := own_below O1 NB (Nat.le_refl _)
          have HZ := own_below Z1 NB (Nat.le_refl _)
          refine ⟨(K1.alloc _).grown G (fun b hb => (Z1.lt b hb).1), (C1.alloc _).grown G hnz ?_, own_grown HA G (own_two HA HZ (by decide))⟩
          intro b hb
          have := (Z1.lt b hb).1
          omega
        clear Kr Cr Or Zr K1 C1 O1 KE
        go_wp2_with (at_builtin; refine wpList_append_own _ rfl _ _ 56 rfl w1.heap.size 3 i0 (.int .i64 0) 1 8 Try.underlying56 hi hz0 hz1 hz2 rfl (by decide) _ _ _ rfl (Z1.alloc _) ⟨v1.heap.size, 0, none⟩ 1 1 [.int .i64 q] rfl rfl ?c1 ?c2 ?c3 ?c4 ?c5 ?_)
        case c1 => exact new1 _ _ _
        case c2 => intro u hu; simp at hu; subst hu; rfl
        case c3 => unfold maxLen; omega
        case c4 => omega
        case c5 => simp; omega
        intro v4 w4 hown4 hgrow _
        obtain ⟨K4, C4, O4⟩ := HX.out w4 hgrow
        rw [zc_snoc] at hown4
        obtain ⟨xa, xc, rfl, -⟩ := own_form hown4
        clear HX hgrow Z1
        go_wp2
        go_roundw
        case rel => exact ⟨k + 1, z ++ [q], xa, xc, by omega, by go_num, rfl, by rw [List.length_append, hzk]; rfl, K4, C4, O4, hown4⟩
        case measure => simp [intOf]; omega
      · obtain rfl : k = m := by omega
        have HE := edges_own Or
        have HL := Cr.below
        have HZ : Ints wr ua z := by
          subst hzk
          obtain ⟨a', cap', e, h⟩ := own_ints Zr
          cases e
          exact h
        clear Or Cr Zr Kr
        go_wp2
        refine bodyPost_ret (results_tmp2 rfl _ _ _) rfl ?_
        exact ⟨⟨l, va, vc, z, ua, uc, by rw [hzk] <;> rfl, hl, by omega, HE, HZ⟩, HL⟩
  · go_wp2_with fail
    refine (once_any C5 _).mono ?_
    rintro e w6 ⟨⟨t, rfl⟩, C6, M6⟩
    have O6 := own_kb O5 (Kb.moved M6) hne
    have S6 := ints_kb C5 S5 had (Kb.moved M6)
    have K6 := K5.trans (Kb.moved M6)
    clear C5 O5 S5 M6 K5
    cases t
    · have HE := edges_own O6
      have HL := C6.below
      clear C6 O6 K6
      go_wp2
      refine bodyPost_ret (results_tmp2 rfl _ _ _) rfl ?_
      exact ⟨⟨l, va, vc, s, ad, cp, rfl, hl, hlen, HE, S6⟩, HL⟩
    · have CN := C6.alloc (.cells #[] 3)
      have ON := O6.alloc (.cells #[] 3)
      have KN := K6.alloc (.cells #[] 3)
      have ZN := own_empty w6 w1.heap.size 3 1 K6.size
      clear C6 O6 K6 S6 hlen
      go_wp2_with fail
      refine (below_any CN _).mono ?_
      rintro e w7 ⟨⟨nn, rfl, hn0, hn1⟩, C7, M7⟩
      have hn2 := hn1 (by omega)
      have O7 := own_kb ON (Kb.moved M7) hne
      have Z7 := Cur.owns_moved ZN M7 hcw
      have K7 := KN.trans (Kb.moved M7)
      obtain ⟨m, rfl⟩ : ∃ m : Nat, nn = m := ⟨nn.toNat, by omega⟩
      clear CN ON ZN KN M7 hn1
      go_wp2
      go_loopw [6, 9] (fun v i wr => ∃ (k : Nat) (z : List Int) (ua : Option Addr) (uc : Nat), k ≤ m ∧ i = .int .i64 k ∧ v = .slice ua k uc ∧ z.length = k ∧ Kb w.heap.size w1 wr ∧ Is w a n cap w.heap.size wr ∧ wr.ownsRow w1.heap.size 115 3 (.slice va l.length vc) l.length (ecells l) ∧ wr.ownsRow w1.heap.size 3 1 (.slice ua k uc) k (zc z)) (fun _ i _ => m - (intOf i).toNat)
      case atStart => exact ⟨0, [], _, _, by omega, rfl, rfl, rfl, K7, C7, O7, Z7⟩
      case round =>
        clear K7 C7 O7 Z7
        obtain ⟨k, z, ua, uc, hk, rfl, rfl, hzk, Kr, Cr, Or, Zr⟩ := hrel
        by_cases hkm : k < m
        · go_wp2_with fail
          refine (end_any Cr).mono ?_
          rintro e v1 ⟨⟨q, rfl⟩, C1, KE⟩
          have hnz : (Value.slice ua k uc).ownBlock ≠ some w.heap.size := fun h => by have := (Zr.lt _ h).1; omega
          have O1 := own_kb Or KE hne
          have Z1 := own_kb Zr KE hnz
          have K1 := Kr.trans KE
          have hb1 : w1.heap.size ≤ v1.heap.size := K1.size
          have HX : Hid (∀ w4, (v1.alloc (.cells #[.int .i64 q] 3)).grownBy w4 (Value.slice ua k uc).ownBlock → Kb w.heap.size w1 w4 ∧ Is w a n cap w.heap.size w4 ∧ w4.ownsRow w1.heap.size 115 3 (.slice va l.length vc) l.length (ecells l)) := by
            intro w4 G
            have NB := new_below v1 (.cells #[.int .i64 q] 3)
            have HA := own_below O1 NB (Nat.le_refl _)
            have HZ := own_below Z1 NB (Nat.le_refl _)
            refine ⟨(K1.alloc _).grown G (fun b hb => (Z1.lt b hb).1), (C1.alloc _).grown G hnz ?_, own_grown HA G (own_two HA HZ (by decide))⟩
            intro b hb
            have := (Z1.lt b hb).1
            omega
          clear Kr Cr Or Zr K1 C1 O1 KE
          go_wp2_with (at_builtin; refine wpList_append_own _ rfl _ _ 56 rfl w1.heap.size 3 i0 (.int .i64 0) 1 8 Try.underlying56 hi hz0 hz1 hz2 rfl (by decide) _ _ _ rfl (Z1.alloc _) ⟨v1.heap.size, 0, none⟩ 1 1 [.int .i64 q] rfl rfl ?c1 ?c2 ?c3 ?c4 ?c5 ?_)
          case c1 => exact new1 _ _ _
          case c2 => intro u hu; simp at hu; subst hu; rfl
          case c3 => unfold maxLen; omega
          case c4 => omega
          case c5 => simp; omega
          intro v4 w4 hown4 hgrow _
          obtain ⟨K4, C4, O4⟩ := HX.out w4 hgrow
          rw [zc_snoc] at hown4
          obtain ⟨xa, xc, rfl, -⟩ := own_form hown4
          clear HX hgrow Z1
          go_wp2
          go_roundw
          case rel => exact ⟨k + 1, z ++ [q], xa, xc, by omega, by go_num, rfl, by rw [List.length_append, hzk]; rfl, K4, C4, O4, hown4⟩
          case measure => simp [intOf]; omega
        · obtain rfl : k = m := by omega
          have HE := edges_own Or
          have HL := Cr.below
          have HZ : Ints wr ua z := by
            subst hzk
            obtain ⟨a', cap', e, h⟩ := own_ints Zr
            cases e
            exact h
          clear Or Cr Zr Kr
          go_wp2
          refine bodyPost_ret (results_tmp2 rfl _ _ _) rfl ?_
          exact ⟨⟨l, va, vc, z, ua, uc, by rw [hzk] <;> rfl, hl, by omega, HE, HZ⟩, HL⟩

end Tf
end Go.Proofs.Ytmhongcbgokilad
