/- The contract of the model's Pieces. -/
import Derived.Test.YtcifgableeeooabDoorPkRun
import Derived.Test.YtcifgableeeooabDoorPkPcs
namespace Go.Proofs.YtcifgableeeooabDoor
namespace Pk
open Go.ChangeShapes Go.WideShapes Go.ChangeAt Go.RowKit
open Math (Pc)
set_option linter.unusedSimpArgs false
set_option linter.unusedVariables false

/-- The cells of pieces. -/
def pcells (l : List Pc) : List Value := l.flatMap fun p => [.int .i64 p.x, .int .i64 p.n, .int .i64 p.d]

theorem pcells_snoc (l : List Pc) (p : Pc) : pcells l ++ [.int .i64 p.x, .int .i64 p.n, .int .i64 p.d] = pcells (l ++ [p]) := by simp [pcells]

theorem pcells_length (l : List Pc) : (pcells l).length = l.length * 3 := by
  induction l with
  | nil => rfl
  | cons p l ih =>
    have : pcells (p :: l) = [.int .i64 p.x, .int .i64 p.n, .int .i64 p.d] ++ pcells l := by simp [pcells]
    rw [this, List.length_append, ih, List.length_cons]
    simp
    omega

theorem cells_new3 (w : World) (t : TypeId) (a b c : Value) : ∀ j u, [a, b, c][j]? = some u → (w.alloc (.cells #[a, b, c] t)).cell? (Addr.add ⟨w.heap.size, 0, none⟩ j) = some u := by
  intro j u h
  rw [show Addr.add ⟨w.heap.size, 0, none⟩ j = ⟨w.heap.size, j, none⟩ from by simp [Addr.add]; exact Eq.symm, cell_at (heap_new w _) j, ← h]
  simp

/-- Two tests at once. -/
theorem far_more (i k : Nat) (h1 : k + 1 ≤ i) (h2 : k + 1 ≤ 1024) : k < Math.far i := by unfold Math.far; omega
theorem far_end (i k : Nat) (hk : k ≤ Math.far i) (h : ¬ (k + 1 ≤ i ∧ k + 1 ≤ 1024)) : k = Math.far i := by unfold Math.far at *; omega
theorem far_le (i : Nat) : Math.far i ≤ i ∧ Math.far i ≤ 1024 := by unfold Math.far; omega

set_option maxHeartbeats 4000000 in
set_option maxRecDepth 100000 in
theorem specPieces_val (s : ByteArray) (w : World) (hs : s.size ≤ maxLen) :
    Calls Tryd.prog 69 #[.string s] w fun e w' => ∃ v, e = .returned v ∧ w'.ownsRow w.heap.size 84 3 v (Math.pieces s).length (pcells (Math.pieces s)) ∧ Below w.heap.size w w' := by
  unfold maxLen at hs
  obtain ⟨i0, hi, hz0, hz1, hz2⟩ := info_of info_pc
  by_cases h3 : s.size ≤ 3000
  · have e0 : Math.pieces s = Math.pcsFrom s s.size 0 := if_pos h3
    rw [e0]
    have hd3 : decide ((3000 : Int) < (s.size : Int)) = false := decide_eq_false (by omega)
    have H3 : Hid (s.size ≤ 3000) := h3
    have hs4 : s.size ≤ 100000 := by omega
    clear h3 e0 hs
    go_enter Tryd.func69, Tryd.ntmps69
    go_wp2
    go_loopw [3, 4] (fun v i wr => ∃ (k : Nat) (l : List Pc), k ≤ s.size ∧ l.length ≤ k ∧ i = .int .i64 k ∧ wr.ownsRow w.heap.size 84 3 v l.length (pcells l) ∧ Below w.heap.size w wr ∧ Hid (l ++ Math.pcsFrom s (s.size - l.length) k = Math.pcsFrom s s.size 0)) (fun _ i _ => s.size - (intOf i).toNat)
    case atStart => exact ⟨0, [], by omega, by simp, rfl, ⟨rfl, Or.inr ⟨w.heap.size, 0, #[], rfl, Nat.le_refl _, heap_new w _, by simp, by unfold maxLen; omega, rfl, rfl⟩⟩, new_below _ _, rfl⟩
    case round =>
      obtain ⟨k, l, hk, hl, rfl, hown, LR, H⟩ := hrel
      by_cases hks : k < s.size
      · have HS : Hid (_) := Math.pcsFrom_step s l.length k hks hl
        have HSt : Hid (_) := Math.stepAt_fits s k hks
        go_wp2
        go_loopw [5, 6, 7] (fun bs bk d w2 => ∃ (j q : Nat), j ≤ Math.far k ∧ d = .int .i64 ((j : Int) + 1) ∧ bs = .int .i64 ((Math.best s k j).1 : Int) ∧ bk = .int .i64 ((Math.best s k j).2 : Int) ∧ w2 = wr.drewN q) (fun _ _ d _ => Math.far k + 1 - (intOf d).toNat)
        case atStart => exact ⟨0, 0, by omega, rfl, rfl, rfl, rfl⟩
        case round =>
          obtain ⟨j, q, hj, rfl, rfl, rfl, rfl⟩ := hrel
          have hfar := far_le k
          have hbl := Math.best_le s k j
          by_cases hjf : j + 1 ≤ k ∧ j + 1 ≤ 1024
          · have hmore := far_more k j hjf.1 hjf.2
            have e1 : (j : Int) + 1 = ((j + 1 : Nat) : Int) := by omega
            have t1 : decide (((j + 1 : Nat) : Int) ≤ (k : Int)) = true := decide_eq_true (by omega)
            have t2 : decide (((j + 1 : Nat) : Int) ≤ 1024) = true := decide_eq_true (by omega)
            have HR : Hid (∀ w, _) := fun w => specRun_val s k (j + 1) w H3.out (by omega) hjf.1 hk
            have HB : Hid (Math.best s k (j + 1) = if (Math.best s k j).1 < Math.run s (k - (j + 1)) k then (Math.run s (k - (j + 1)) k, j + 1) else Math.best s k j) := rfl
            have hrl := Math.run_le s (k - (j + 1)) k
            generalize Math.run s (k - (j + 1)) k = r at *
            rw [e1]
            clear e1 hjf
            by_cases hgt : (Math.best s k j).1 < r
            · rw [if_pos hgt] at HB
              generalize (Math.best s k j).1 = B1 at *
              generalize (Math.best s k j).2 = B2 at *
              have HB1 : Hid (_) := congrArg Prod.fst HB.out
              have HB2 : Hid (_) := congrArg Prod.snd HB.out
              clear HB
              generalize hJ1 : j + 1 = j1 at *
              go_wp2_with fail
              refine (HR.out _).mono ?_
              rintro e w3 ⟨rfl, qq, rfl⟩
              go_wp2
              go_roundw
              case rel => exact ⟨j1, q + qq, by omega, by go_num, by rw [HB1.out], by rw [HB2.out], by first | rfl | rw [World.drewN_drewN]⟩
              case measure => simp [intOf]; omega
            · rw [if_neg hgt] at HB
              have HB1 : Hid (_) := HB.out
              generalize hBst : Math.best s k j = Bst at *
              obtain ⟨B1, B2⟩ := Bst
              clear HB
              generalize hJ1 : j + 1 = j1 at *
              go_wp2_with fail
              refine (HR.out _).mono ?_
              rintro e w3 ⟨rfl, qq, rfl⟩
              go_wp2
              go_roundw
              case rel => exact ⟨j1, q + qq, by omega, by go_num, by rw [HB1.out], by rw [HB1.out], by first | rfl | rw [World.drewN_drewN]⟩
              case measure => simp [intOf]; omega
          · have hend := far_end k j hj hjf
            have hfit := Math.best_fits s k j hk
            have HP : Hid (Math.pieceAt s k = if 3 ≤ (Math.best s k j).1 then ⟨0, (Math.best s k j).1, (Math.best s k j).2⟩ else ⟨((s.data.toList.getD k 0).toNat : Int), 0, 0⟩) := by rw [hend]; rfl
            have HT : Hid (Math.stepAt s k = if 3 ≤ (Math.best s k j).1 then (Math.best s k j).1 else 1) := by rw [hend]; rfl
            have tt : decide ((j : Int) + 1 ≤ (k : Int)) = false ∨ (decide ((j : Int) + 1 ≤ (k : Int)) = true ∧ decide ((j : Int) + 1 ≤ 1024) = false) := by
              by_cases g : j + 1 ≤ k
              · exact Or.inr ⟨decide_eq_true (by omega), decide_eq_false (by omega)⟩
              · exact Or.inl (decide_eq_false (by omega))
            have hjb : j ≤ 1024 := by omega
            clear hjf hend hj hfar
            generalize (Math.best s k j).1 = B1 at *
            generalize (Math.best s k j).2 = B2 at *
            have LQ : Below w.heap.size w (wr.drewN q) := LR.trans ((Drawn.refl wr).more q |>.below _)
            have hownq : (wr.drewN q).ownsRow w.heap.size 84 3 _ l.length (pcells l) := own_below hown ((Drawn.refl wr).more q |>.below wr.heap.size) (Nat.le_refl _)
            generalize wr.drewN q = w2 at *
            have hB2 : w.heap.size ≤ w2.heap.size := LQ.size
            clear hown LR
            by_cases hb3 : 3 ≤ B1
            · rw [if_pos hb3] at HP HT
              have HN : Hid (l ++ [(⟨0, B1, B2⟩ : Pc)] ++ Math.pcsFrom s (s.size - (l ++ [(⟨0, B1, B2⟩ : Pc)]).length) (k + B1) = Math.pcsFrom s s.size 0) := by
                show _ = _
                rw [← H.out, HS.out, HP.out, HT.out, List.length_append, List.append_assoc]
                rfl
              have HSN : Hid (_) := pcells_snoc l ⟨0, B1, B2⟩
              clear H HS HP HT
              rcases tt with tt | ⟨tt, tt2⟩
              all_goals
                go_wp2_with (at_builtin; refine wpList_append_own _ rfl _ _ 81 rfl w.heap.size 84 i0 (pcV 0 0 0) 3 24 Tryd.underlying81 hi hz0 hz1 hz2 rfl (by decide) _ _ _ rfl (hownq.alloc _) ⟨w2.heap.size, 0, none⟩ 1 1 [.int .i64 0, .int .i64 B1, .int .i64 B2] rfl rfl ?c1 ?c2 ?c3 ?c4 ?c5 ?_)
                case c2 => exact ⟨rfl, rfl, rfl⟩
                case c3 => unfold maxLen; omega
                case c4 => omega
                case c5 => first | omega | (simp; omega)
                · intro v' w4 hown4 hgrow _
                  have L4 : Below w.heap.size w w4 := (LQ.alloc hB2 _).grown hgrow (by simp; omega) (fun m h => own_ge hownq m h)
                  rw [HSN.out] at hown4
                  clear hownq hgrow HSN
                  go_wp2
                  go_roundw
                  case rel => exact ⟨k + B1, l ++ [⟨0, B1, B2⟩], by omega, by rw [List.length_append]; simp; omega, by go_num, by rw [List.length_append]; exact hown4, L4, HN⟩
                  case measure => simp [intOf]; omega
            · rw [if_neg hb3] at HP HT
              have hgd : s.data.toList.getD k 0 = s[k] := by
                rw [List.getD_eq_getElem?_getD, Array.getElem?_toList, Array.getElem?_eq_getElem hks]
                rfl
              rw [hgd] at HP
              have HN : Hid (l ++ [(⟨(s[k].toNat : Int), 0, 0⟩ : Pc)] ++ Math.pcsFrom s (s.size - (l ++ [(⟨(s[k].toNat : Int), 0, 0⟩ : Pc)]).length) (k + 1) = Math.pcsFrom s s.size 0) := by
                show _ = _
                rw [← H.out, HS.out, HP.out, HT.out, List.length_append, List.append_assoc]
                rfl
              have HSN : Hid (_) := pcells_snoc l ⟨(s[k].toNat : Int), 0, 0⟩
              have hbt := s[k].toNat_lt
              have hb3' : decide ((3 : Int) ≤ (B1 : Int)) = false := decide_eq_false (by omega)
              clear H HS HP HT hgd
              rcases tt with tt | ⟨tt, tt2⟩
              all_goals
                go_wp2_with (at_builtin; refine wpList_append_own _ rfl _ _ 81 rfl w.heap.size 84 i0 (pcV 0 0 0) 3 24 Tryd.underlying81 hi hz0 hz1 hz2 rfl (by decide) _ _ _ rfl (hownq.alloc _) ⟨w2.heap.size, 0, none⟩ 1 1 [.int .i64 (s[k].toNat : Int), .int .i64 0, .int .i64 0] rfl rfl ?d1 ?d2 ?d3 ?d4 ?d5 ?_)
                case d2 => first | exact ⟨rfl, rfl, rfl⟩ | exact ⟨rfl, rfl⟩ | (refine ⟨?_, ?_⟩ <;> rfl) | rfl
                case d3 => unfold maxLen; omega
                case d4 => omega
                case d5 => first | omega | (simp; omega)
                · intro v' w4 hown4 hgrow _
                  have L4 : Below w.heap.size w w4 := (LQ.alloc hB2 _).grown hgrow (by simp; omega) (fun m h => own_ge hownq m h)
                  rw [HSN.out] at hown4
                  clear hownq hgrow HSN
                  go_wp2
                  go_roundw
                  case rel => exact ⟨k + 1, l ++ [⟨(s[k].toNat : Int), 0, 0⟩], by omega, by rw [List.length_append]; simp; omega, by go_num, by rw [List.length_append]; exact hown4, L4, HN⟩
                  case measure => simp [intOf]; omega
      · obtain rfl : k = s.size := by omega
        have HF : Hid (l = Math.pcsFrom s s.size 0) := by
          show _ = _
          have := H.out
          rw [Math.pcsFrom_end s _ _ (by omega), List.append_nil] at this
          exact this
        go_wp2
        go_ret
        rw [← HF.out]
        exact ⟨_, rfl, hown, LR⟩
  · have e0 : Math.pieces s = [] := if_neg h3
    rw [e0]
    have hd3 : decide ((3000 : Int) < (s.size : Int)) = true := decide_eq_true (by omega)
    clear h3 e0
    go_enter Tryd.func69, Tryd.ntmps69
    go_wp2
    go_ret
    exact ⟨_, rfl, ⟨rfl, Or.inr ⟨w.heap.size, 0, #[], rfl, Nat.le_refl _, heap_new w _, by simp, by unfold maxLen; omega, rfl, rfl⟩⟩, new_below _ _⟩

end Pk
end Go.Proofs.YtcifgableeeooabDoor
