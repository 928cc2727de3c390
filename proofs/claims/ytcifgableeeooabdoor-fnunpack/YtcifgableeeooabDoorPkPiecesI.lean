/- The contract of the program's Pieces. -/
import Derived.Test.YtcifgableeeooabDoorPkLongest
namespace Go.Proofs.YtcifgableeeooabDoor
namespace Pk
open Go.ChangeShapes Go.WideShapes Go.ChangeAt Go.RowKit
open Go.ChangeMaps (setBlock)
open Math (Pc)
set_option linter.unusedSimpArgs false
set_option linter.unusedVariables false

theorem cells_at3 {w : World} {g : Nat} {a b c : Value} {t : TypeId} {fz : Nat × Nat} (h : w.heap[g]? = some (.cells #[a, b, c] t fz)) : ∀ (j : Nat) (u : Value), [a, b, c][j]? = some u → w.cell? (Addr.add ⟨g, 0, none⟩ j) = some u := by
  intro j u hu
  rw [show Addr.add ⟨g, 0, none⟩ j = ⟨g, j, none⟩ from by simp [Addr.add]; exact Eq.symm, cell_at h j, ← hu]
  simp

/-- A row of pieces is kept where nothing but the map, rows of numbers and new blocks has turned. -/
theorem KeptBut.row {b C : Nat} {w w' : World} (K : KeptBut b w w') {v : Value} {n : Nat} {xs : List Value} {es : Array MapEntry} {clock : Nat} (hb : w.heap[b]? = some (.map es clock)) (h : w.ownsRow C 84 3 v n xs) : w'.ownsRow C 84 3 v n xs := by
  obtain ⟨h1, h2⟩ := h
  refine ⟨h1, ?_⟩
  rcases h2 with h2 | ⟨g, cap, cur, hv, hg, hh, hr⟩
  · exact Or.inl h2
  · refine Or.inr ⟨g, cap, cur, hv, hg, K.2 g _ hh ?_ ?_, hr⟩
    · intro e
      subst e
      rw [hb] at hh
      cases hh
    · intro cs fz e
      cases e

theorem Mp.grown {B b C : Nat} {f : Key → List Nat} {es : Array MapEntry} {clock : Nat} {w w4 : World} (M : Mp B b f es clock w) {v : Value} {n : Nat} {xs : List Value} (I : w.ownsRow C 84 3 v n xs) (G : w.grownBy w4 v.ownBlock) : Mp B b f es clock w4 := by
  have hI : ∀ g, v.ownBlock = some g → ∃ cur fz, w.heap[g]? = some (.cells cur 84 fz) := by
    intro g hg
    obtain ⟨-, h2⟩ := I
    rcases h2 with ⟨hv, -⟩ | ⟨g', cap, cur, hv, -, hh, -⟩
    · rw [hv] at hg; cases hg
    · rw [hv] at hg
      simp only [Value.ownBlock, Option.some.injEq] at hg
      subst hg
      exact ⟨cur, _, hh⟩
  refine ⟨?_, M.born, M.nodup, M.keys, fun e he k hk => ⟨(M.rows e he k hk).1, ?_⟩, M.has, M.apart⟩
  · rw [G.block b (lt_of M.blk) (fun h => by
      obtain ⟨cur, fz, hh⟩ := hI b h.symm
      rw [M.blk] at hh
      cases hh)]
    exact M.blk
  · obtain ⟨r1, r2⟩ := M.rows e he k hk
    refine r2.kept G (Or.inr ?_)
    intro h
    obtain ⟨g, cap, he2, -, -, -, -, -⟩ := own_at r2 0 (by cases hf : f k with | nil => exact absurd hf r1 | cons a l => simp)
    have hg : v.ownBlock = some g := by rw [← h, he2]; rfl
    obtain ⟨cur, fz, hh⟩ := hI g hg
    obtain ⟨-, h2⟩ := r2
    rcases h2 with ⟨hv, -⟩ | ⟨g', cap', cur', hv, -, hh', -⟩
    · rw [hv] at he2; cases he2
    · rw [hv] at he2
      simp only [Value.slice.injEq, Option.some.injEq, Addr.mk.injEq] at he2
      obtain ⟨⟨rfl, -⟩, -⟩ := he2
      rw [hh] at hh'
      simp only [Option.some.injEq, Obj.cells.injEq] at hh'
      exact absurd hh'.2.1 (by decide)

set_option maxHeartbeats 4000000 in
set_option maxRecDepth 100000 in
theorem implPieces_val (s : ByteArray) (w : World) (hs : s.size ≤ maxLen) :
    Calls Tryd.prog 66 #[.string s] w fun e w' => ∃ v, e = .returned v ∧ w'.ownsRow w.heap.size 84 3 v (Math.pieces s).length (pcells (Math.pieces s)) ∧ Below w.heap.size w w' := by
  unfold maxLen at hs
  obtain ⟨i0, hi, hz0, hz1, hz2⟩ := info_of info_pc
  by_cases h3 : s.size ≤ 3000
  · have e0 : Math.pieces s = Math.pcsFrom s s.size 0 := if_pos h3
    rw [e0]
    have hd3 : decide ((3000 : Int) < (s.size : Int)) = false := decide_eq_false (by omega)
    have H3 : Hid (s.size ≤ 3000) := h3
    have hs4 : s.size ≤ 100000 := by omega
    have hmk : ∀ w : World, (Instr.makeMap 127 none).run Tryd.prog w = .ok (.map (some w.heap.size)) (w.alloc (.map #[] 0)) := fun w => by simp [Instr.makeMap, go_sem]
    clear h3 e0 hs
    go_enter Tryd.func66, Tryd.ntmps66
    go_wp2
    go_loopw [3, 5] (fun v i wr => ∃ (k : Nat) (l : List Pc), k ≤ s.size ∧ l.length ≤ k ∧ i = .int .i64 k ∧ wr.ownsRow w.heap.size 84 3 v l.length (pcells l) ∧ Below w.heap.size w wr ∧ w.heap.size + 2 ≤ wr.heap.size ∧ Hid (∃ es clock, Mp (w.heap.size + 2) (w.heap.size + 1) (learnt s k) es clock wr) ∧ Hid (l ++ Math.pcsFrom s (s.size - l.length) k = Math.pcsFrom s s.size 0)) (fun _ i _ => s.size - (intOf i).toNat)
    case atStart =>
      obtain ⟨L0, m0, m1⟩ := two_new' w (.cells #[] 84) (.map #[] 0)
      exact ⟨0, [], by omega, by simp, rfl, ⟨rfl, Or.inr ⟨w.heap.size, 0, #[], rfl, Nat.le_refl _, m0, by simp, by unfold maxLen; omega, rfl, rfl⟩⟩, L0, by simp, ⟨#[], 0, by
        have := mp_new (w.heap.size + 2) (w.alloc (.cells #[] 84))
        simpa [learnt] using this⟩, rfl⟩
    case round =>
      obtain ⟨k, l, hk, hl, rfl, hown, LR, hB, HM, H⟩ := hrel
      by_cases hks : k < s.size
      · obtain ⟨es, clock, M⟩ := HM.out
        have HS : Hid (_) := Math.pcsFrom_step s l.length k hks hl
        have HSt : Hid (_) := Math.stepAt_fits s k hks
        have HLP : Hid (_) := longV_piece s k
        have HLG : Hid (_) := longest_val (w.heap.size + 2) (w.heap.size + 1) s k es clock wr H3.out hk M
        generalize longV s k = V at *
        obtain ⟨N, D⟩ := V
        dsimp only at HLP HLG
        go_wp2_with fail
        refine (Calls.mono HLG.out ?_)
        rintro e w2 ⟨rfl, L2⟩
        have L3 := LR.trans (L2.mono LR.size)
        have M2 := M.on L2
        have hown2 := own_below hown L2 (Nat.le_refl _)
        have hB2 : w.heap.size + 2 ≤ w2.heap.size := Nat.le_trans hB L2.size
        obtain ⟨va, vc, rfl, -⟩ := own_form hown2
        clear hown LR M L2 HM HLG
        by_cases hN : 3 ≤ N
        · obtain ⟨p1, p2⟩ := HLP.out.1 hN
          have HPA : Hid (_) := p1
          have HST2 : Hid (_) := p2
          have hN0 : decide ((0 : Int) < (N : Int)) = true := decide_eq_true (by omega)
          clear p1 p2 HLP
          have X1 := two_new' w2 (pcB 0 N D) (.cells #[.int .i64 0, .int .i64 N, .int .i64 D] 84)
          have m2 := heap_new w2 (pcB 0 N D)
          have HN : Hid (l ++ [(⟨0, N, D⟩ : Pc)] ++ Math.pcsFrom s (s.size - (l ++ [(⟨0, N, D⟩ : Pc)]).length) (k + N) = Math.pcsFrom s s.size 0) := by
            show _ = _
            rw [← H.out, HS.out, HPA.out, HST2.out, List.length_append, List.append_assoc]
            rfl
          have hfit : k + N ≤ s.size := by have := HSt.out; rw [HST2.out] at this; exact this
          have HSN : Hid (_) := pcells_snoc l ⟨0, N, D⟩
          have LX : Below w.heap.size w ((w2.alloc (pcB 0 N D)).alloc (.cells #[.int .i64 0, .int .i64 N, .int .i64 D] 84)) := L3.trans (X1.1.mono L3.size)
          have MX := M2.on X1.1
          have hownX := own_below hown2 X1.1 (Nat.le_refl _)
          have hBX : w.heap.size + 2 ≤ ((w2.alloc (pcB 0 N D)).alloc (.cells #[.int .i64 0, .int .i64 N, .int .i64 D] 84)).heap.size := Nat.le_trans hB2 X1.1.size
          have c1 : (w2.alloc (pcB 0 N D)).cell? ⟨w2.heap.size, 1, none⟩ = some (.int .i64 N) := cell_at m2 1
          clear M2 hown2 L3
          go_wp2_with (at_builtin; refine wpList_append_own _ rfl _ _ 81 rfl w.heap.size 84 i0 (pcV 0 0 0) 3 24 Tryd.underlying81 hi hz0 hz1 hz2 rfl (by decide) _ _ _ rfl hownX ⟨w2.heap.size + 1, 0, none⟩ 1 1 [.int .i64 0, .int .i64 N, .int .i64 D] rfl rfl ?c1 ?c2 ?c3 ?c4 ?c5 ?_)
          case c1 => exact cells_at3 X1.2.2
          case c2 => first | exact ⟨rfl, rfl, rfl⟩ | exact ⟨rfl, rfl⟩ | (intro u hu; simp at hu; rcases hu with rfl | rfl | rfl <;> rfl) | rfl
          case c3 => unfold maxLen; omega
          case c4 => omega
          case c5 => first | omega | (simp; omega)
          intro v' w4 hown4 hgrow _
          have L5 : Below w.heap.size w w4 := LX.grown hgrow (by have := LX.size; omega) (fun m h => own_ge hownX m h)
          have M5 := MX.grown hownX hgrow
          have hB5 : w.heap.size + 2 ≤ w4.heap.size := Nat.le_trans hBX hgrow.size
          rw [HSN.out] at hown4
          obtain ⟨q, hq⟩ : ∃ q, k + N = q := ⟨_, rfl⟩
          have HQ : Hid (k + N = q) := hq
          have hfq : q ≤ s.size := by omega
          have hkq : k < q := by omega
          have HLE : Hid (_) := learn_val (w.heap.size + 2) (w.heap.size + 1) s k q es clock w4 H3.out (by omega) hfq (by omega) hB5 M5
          have hb5 := M5.blk
          clear hgrow MX LX hownX M5 HSN H HS HSt HPA HST2
          have ek : (k : Int) + (N : Int) = (q : Int) := by omega
          clear hq hfit
          go_wp2_with fail
          refine (Calls.mono HLE.out ?_)
          rintro e w6 ⟨rfl, M6, K6⟩
          have HM6 : Hid (_) := M6
          have L7 := L5.trans (K6.1.mono (by omega))
          have hown7 := K6.row hb5 hown4
          have hB7 : w.heap.size + 2 ≤ w6.heap.size := Nat.le_trans hB5 K6.1.size
          clear M6 K6 L5 hown4 HLE hb5
          go_wp2
          go_roundw
          case rel => exact ⟨q, l ++ [⟨0, N, D⟩], hfq, by rw [List.length_append]; simp; omega, by first | rfl | go_num, by rw [List.length_append]; exact hown7, L7, hB7, HM6, by rw [← HQ.out]; exact HN⟩
          case measure => simp [intOf]; omega
        · obtain ⟨hV0, p1, p2⟩ := HLP.out.2 hN
          obtain ⟨rfl, rfl⟩ := Prod.mk.inj hV0
          have hgd : s.data.toList.getD k 0 = s[k] := by
            rw [List.getD_eq_getElem?_getD, Array.getElem?_toList, Array.getElem?_eq_getElem hks]
            rfl
          rw [hgd] at p1
          have HPA : Hid (_) := p1
          have HST2 : Hid (_) := p2
          have hbt := s[k].toNat_lt
          have m2 := heap_new w2 (pcB 0 0 0)
          have z0 : (w2.alloc (pcB 0 0 0)).cell? ⟨w2.heap.size, 0, none⟩ = some (.int .i64 0) := cell_at m2 0
          have z1 : (w2.alloc (pcB 0 0 0)).cell? ⟨w2.heap.size, 1, none⟩ = some (.int .i64 0) := cell_at m2 1
          have y0 : (w2.alloc (pcB 0 0 0)).frozen? ⟨w2.heap.size, 0, none⟩ = false := frozen_at m2 0
          clear p1 p2 HLP hgd
          have X1 := two_new' w2 (pcB (s[k].toNat : Int) 0 0) (.cells #[.int .i64 (s[k].toNat : Int), .int .i64 0, .int .i64 0] 84)
          have HN : Hid (l ++ [(⟨(s[k].toNat : Int), 0, 0⟩ : Pc)] ++ Math.pcsFrom s (s.size - (l ++ [(⟨(s[k].toNat : Int), 0, 0⟩ : Pc)]).length) (k + 1) = Math.pcsFrom s s.size 0) := by
            show _ = _
            rw [← H.out, HS.out, HPA.out, HST2.out, List.length_append, List.append_assoc]
            rfl
          have hfit : k + 1 ≤ s.size := by omega
          have HSN : Hid (_) := pcells_snoc l ⟨(s[k].toNat : Int), 0, 0⟩
          have LX : Below w.heap.size w ((w2.alloc (pcB (s[k].toNat : Int) 0 0)).alloc (.cells #[.int .i64 (s[k].toNat : Int), .int .i64 0, .int .i64 0] 84)) := L3.trans (X1.1.mono L3.size)
          have MX := M2.on X1.1
          have hownX := own_below hown2 X1.1 (Nat.le_refl _)
          have hBX : w.heap.size + 2 ≤ ((w2.alloc (pcB (s[k].toNat : Int) 0 0)).alloc (.cells #[.int .i64 (s[k].toNat : Int), .int .i64 0, .int .i64 0] 84)).heap.size := Nat.le_trans hB2 X1.1.size
          clear M2 hown2 L3
          go_wp2_with (at_builtin; refine wpList_append_own _ rfl _ _ 81 rfl w.heap.size 84 i0 (pcV 0 0 0) 3 24 Tryd.underlying81 hi hz0 hz1 hz2 rfl (by decide) _ _ _ rfl hownX ⟨w2.heap.size + 1, 0, none⟩ 1 1 [.int .i64 (s[k].toNat : Int), .int .i64 0, .int .i64 0] rfl rfl ?d1 ?d2 ?d3 ?d4 ?d5 ?_)
          case d1 => exact cells_at3 X1.2.2
          case d2 => first | exact ⟨rfl, rfl, rfl⟩ | exact ⟨rfl, rfl⟩ | (intro u hu; simp at hu; rcases hu with rfl | rfl | rfl <;> rfl) | rfl
          case d3 => unfold maxLen; omega
          case d4 => omega
          case d5 => first | omega | (simp; omega)
          intro v' w4 hown4 hgrow _
          have L5 : Below w.heap.size w w4 := LX.grown hgrow (by have := LX.size; omega) (fun m h => own_ge hownX m h)
          have M5 := MX.grown hownX hgrow
          have hB5 : w.heap.size + 2 ≤ w4.heap.size := Nat.le_trans hBX hgrow.size
          rw [HSN.out] at hown4
          obtain ⟨q, hq⟩ : ∃ q, k + 1 = q := ⟨_, rfl⟩
          have HQ : Hid (k + 1 = q) := hq
          have hfq : q ≤ s.size := by omega
          have hkq : k < q := by omega
          have HLE : Hid (_) := learn_val (w.heap.size + 2) (w.heap.size + 1) s k q es clock w4 H3.out (by omega) hfq (by omega) hB5 M5
          have hb5 := M5.blk
          clear hgrow MX LX hownX M5 HSN H HS HSt HPA HST2
          have ek : (k : Int) + 1 = (q : Int) := by omega
          clear hq
          go_wp2_with fail
          refine (Calls.mono HLE.out ?_)
          rintro e w6 ⟨rfl, M6, K6⟩
          have HM6 : Hid (_) := M6
          have L7 := L5.trans (K6.1.mono (by omega))
          have hown7 := K6.row hb5 hown4
          have hB7 : w.heap.size + 2 ≤ w6.heap.size := Nat.le_trans hB5 K6.1.size
          clear M6 K6 L5 hown4 HLE hb5
          go_wp2
          go_roundw
          case rel => exact ⟨q, l ++ [⟨(s[k].toNat : Int), 0, 0⟩], hfq, by rw [List.length_append]; simp; omega, by first | rfl | go_num, by rw [List.length_append]; exact hown7, L7, hB7, HM6, by rw [← HQ.out]; exact HN⟩
          case measure => simp [intOf]; omega
      · obtain rfl : k = s.size := by omega
        have HF : Hid (l = Math.pcsFrom s s.size 0) := by
          show _ = _
          have := H.out
          rw [Math.pcsFrom_end s _ _ (by omega), List.append_nil] at this
          exact this
        go_wp2
        go_ret
        rw [← HF.out]
        exact ⟨_, rfl, hown, LR⟩
  · have e0 : Math.pieces s = [] := if_neg h3
    rw [e0]
    have hd3 : decide ((3000 : Int) < (s.size : Int)) = true := decide_eq_true (by omega)
    clear h3 e0
    go_enter Tryd.func66, Tryd.ntmps66
    go_wp2
    go_ret
    exact ⟨_, rfl, ⟨rfl, Or.inr ⟨w.heap.size, 0, #[], rfl, Nat.le_refl _, heap_new w _, by simp, by unfold maxLen; omega, rfl, rfl⟩⟩, new_below _ _⟩

end Pk
end Go.Proofs.YtcifgableeeooabDoor
