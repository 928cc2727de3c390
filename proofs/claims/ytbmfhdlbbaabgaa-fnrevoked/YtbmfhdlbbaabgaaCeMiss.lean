/- Missing of program and model. -/
import Derived.Test.YtbmfhdlbbaabgaaCeCp
namespace Go.Proofs.Ytbmfhdlbbaabgaa
namespace Hn
open Go.ChangeShapes Go.WideShapes Go.ChangeAt Go.RowKit Go.Joins
open Pk (new_below join_below cell_at heap_new frozen_at lt_of kept heap_old Drawn info_of Room own_form own_below own_ge)
set_option linter.unusedSimpArgs false
set_option linter.unusedVariables false

/-- The greatest number of a device, from m on. -/
def mostF (dv : Int) : Int → List Ct → Int
  | m, [] => m
  | m, c :: t => mostF dv (if c.dv = dv ∧ m < c.no then c.no else m) t

/-- It, as the program keeps it. -/
def lastF (dv : Int) : Int → List Ct → Int
  | m, [] => m
  | m, c :: t => lastF dv (if c.dv = dv then min (max m c.no) 1000 else m) t

theorem last_is (dv : Int) (l : List Ct) : ∀ m : Int, lastF dv (min m 1000) l = min (mostF dv m l) 1000 := by
  induction l with
  | nil => intro m; rfl
  | cons c t ih =>
    intro m
    show lastF dv (if c.dv = dv then min (max (min m 1000) c.no) 1000 else min m 1000) t = _
    show _ = min (mostF dv (if c.dv = dv ∧ m < c.no then c.no else m) t) 1000
    rw [← ih]
    congr 1
    by_cases h : c.dv = dv
    · rw [if_pos h]
      by_cases h2 : m < c.no
      · rw [if_pos ⟨h, h2⟩]; omega
      · rw [if_neg (fun k => h2 k.2)]; omega
    · rw [if_neg h, if_neg (fun k => h k.1)]

theorem most_ge (dv : Int) (l : List Ct) : ∀ m : Int, m ≤ mostF dv m l := by
  induction l with
  | nil => intro m; exact Int.le_refl _
  | cons c t ih =>
    intro m
    refine Int.le_trans ?_ (ih _)
    split <;> omega

/-- Up to where numbers are told. -/
def topN (dv : Int) (l : List Ct) : Nat := (min (mostF dv 0 l) 1000).toNat

theorem top_last (dv : Int) (l : List Ct) : lastF dv 0 l = (topN dv l : Int) := by
  have h := last_is dv l 0
  have h2 := most_ge dv l 0
  have e : min (0 : Int) 1000 = 0 := rfl
  rw [e] at h
  rw [h]
  unfold topN
  omega

theorem top_le (dv : Int) (l : List Ct) : topN dv l ≤ 1000 := by unfold topN; omega

theorem top_iff (dv : Int) (l : List Ct) (n : Nat) : ((n : Int) ≤ mostF dv 0 l ∧ (n : Int) ≤ 1000) ↔ n ≤ topN dv l := by
  have := most_ge dv l 0
  unfold topN
  omega

/-- Whether a control of a device has that number. -/
def hasN (dv : Int) (l : List Ct) (n : Int) : Bool := l.any fun c => decide (c.dv = dv) && decide (c.no = n)

theorem has_step {dv : Int} {l : List Ct} {k : Nat} (hk : k < l.length) (n : Int) : hasN dv (l.take (k + 1)) n = (hasN dv (l.take k) n || (decide (l[k].dv = dv) && decide (l[k].no = n))) := by
  unfold hasN
  rw [List.take_succ_eq_append_getElem hk, List.any_append]
  simp

/-- The numbers up to k that none has. -/
def missF (dv : Int) (l : List Ct) : Nat → List Int
  | 0 => []
  | k + 1 => if hasN dv l ((k + 1 : Nat) : Int) = true then missF dv l k else missF dv l k ++ [((k + 1 : Nat) : Int)]

def missL (dv : Int) (l : List Ct) : List Int := missF dv l (topN dv l)

theorem miss_len (dv : Int) (l : List Ct) (k : Nat) : (missF dv l k).length ≤ k := by
  induction k with
  | zero => simp [missF]
  | succ k ih =>
    unfold missF
    split
    · omega
    · simp; omega

theorem missL_len (dv : Int) (l : List Ct) : (missL dv l).length ≤ 1000 := Nat.le_trans (miss_len _ _ _) (top_le _ _)

theorem miss_yes {dv : Int} {l : List Ct} {k j : Nat} (hj : k = j + 1) (h : hasN dv l k = true) : missF dv l k = missF dv l j := by
  subst hj
  rw [missF, if_pos h]

theorem miss_no {dv : Int} {l : List Ct} {k j : Nat} (hj : k = j + 1) (h : hasN dv l k = false) : missF dv l k = missF dv l j ++ [(k : Int)] := by
  subst hj
  rw [missF, if_neg (by rw [h]; decide)]

theorem one_new (W : World) (v : Value) (t : TypeId) : ∀ j u, [v][j]? = some u → (W.alloc (.cells #[v] t)).cell? (Addr.add ⟨W.heap.size, 0, none⟩ j) = some u := by
  intro j u hu
  match j, hu with
  | 0, hu =>
    have := Pk.cell_at (Pk.heap_new W (.cells #[v] t)) 0
    simp at hu
    subst hu
    rw [show Addr.add ⟨W.heap.size, 0, none⟩ 0 = ⟨W.heap.size, 0, none⟩ from by simp [Addr.add]]
    exact this
  | j + 1, hu => simp at hu

theorem icells_snoc (l : List Int) (x : Int) : icells l ++ [.int .i64 x] = icells (l ++ [x]) := by simp [icells]

/-- The flags from 1 to 1000 in a block. -/
def Bl (w : World) (g : Nat) (f : Int → Bool) : Prop := ∀ n : Nat, 1 ≤ n → n ≤ 1000 → w.cell? ⟨g, n, none⟩ = some (.bool (f n)) ∧ w.frozen? ⟨g, n, none⟩ = false

theorem Bl.on {w w1 : World} {g B : Nat} {f : Int → Bool} (h : Bl w g f) (L : Below B w w1) (hg : g < B) : Bl w1 g f := by
  intro n h1 h2
  rw [World.cell?_of_block (a := ⟨g, n, none⟩) (L.block g hg), World.frozen?_of_block (a := ⟨g, n, none⟩) (L.block g hg)]
  exact h n h1 h2

theorem Bl.alloc {w : World} {g : Nat} {f : Int → Bool} (h : Bl w g f) (hg : g < w.heap.size) (x : Obj) : Bl (w.alloc x) g f := h.on (new_below w x) hg

theorem Bl.to {w : World} {g : Nat} {f f' : Int → Bool} (h : Bl w g f) (e : ∀ n : Nat, 1 ≤ n → n ≤ 1000 → f' n = f n) : Bl w g f' := by
  intro n h1 h2
  rw [e n h1 h2]
  exact h n h1 h2

theorem Bl.set {w : World} {g m : Nat} {f f' : Int → Bool} (h : Bl w g f) (e : ∀ n : Nat, 1 ≤ n → n ≤ 1000 → f' n = (f n || decide (n = m))) : Bl (w.setCell ⟨g, m, none⟩ (.bool true)) g f' := by
  intro n h1 h2
  obtain ⟨c, fz⟩ := h n h1 h2
  refine ⟨?_, ?_⟩
  · rw [set_cell c, e n h1 h2]
    by_cases hn : n = m
    · rw [if_pos hn, decide_eq_true hn, Bool.or_true]
    · rw [if_neg hn, decide_eq_false hn, Bool.or_false]
  · rw [World.frozen?_setCell]
    exact fz

theorem zero_flags : Try.zeroCells73 = Array.replicate 1001 (.bool false) := by kernel_rfl

theorem Bl.new {w : World} {g : Nat} {dv : Int} {l : List Ct} (h : w.heap[g]? = some (.cells Try.zeroCells73 73)) : Bl w g (hasN dv (l.take 0)) := by
  intro n h1 h2
  refine ⟨?_, frozen_at h n⟩
  rw [cell_at h, zero_flags, Array.getElem?_replicate, if_pos (by omega)]
  simp [hasN]

set_option maxRecDepth 100000 in
set_option maxHeartbeats 4000000 in
theorem implMiss_val (x : Pl) (o : Ctr) (dv : Int) (w : World) (hz2 : o.sl.length ≤ 1048576) (I : In w x o) :
    Calls Try.prog 24 #[ceV x o, .int .i64 dv] w fun e w' => ∃ v, e = .returned v ∧ w'.ownsRow w.heap.size 3 1 v (missL dv o.sl).length (icells (missL dv o.sl)) ∧ Below w.heap.size w w' := by
  obtain ⟨xa, xc, xb, xd⟩ := x
  have IS : Controls w xb o.sl := I.seen
  obtain ⟨i0, hi, hz0, hz1, hz3⟩ := info_of intInfo
  obtain ⟨-, k1, hs⟩ := two_blocks w (ceB ⟨xa, xc, xb, xd⟩ o 27) (.cells Try.zeroCells73 73)
  have L : Below w.heap.size w ((w.alloc (ceB ⟨xa, xc, xb, xd⟩ o 27)).alloc (.cells Try.zeroCells73 73)) := join_below (new_below _ _) (new_below _ _)
  have B0 : Bl _ (w.heap.size + 1) (hasN dv (o.sl.take 0)) := Bl.new k1
  have hlt := lt_of k1
  have HT : Hid (lastF dv 0 o.sl = (topN dv o.sl : Int)) := top_last dv o.sl
  have HL : Hid (missL dv o.sl = missF dv o.sl (topN dv o.sl)) := rfl
  have htop := top_le dv o.sl
  clear I k1 hs
  go_enter Try.func24, Try.ntmps24
  go_wp2
  go_loopw [6, 14] (fun la i wr => ∃ (k : Nat) (m : Int), k ≤ o.sl.length ∧ i = .int .i64 k ∧ la = .int .i64 m ∧ Below w.heap.size w wr ∧ w.heap.size + 1 < wr.heap.size ∧ Bl wr (w.heap.size + 1) (hasN dv (o.sl.take k)) ∧ Hid (lastF dv m (o.sl.drop k) = lastF dv 0 o.sl)) (fun _ i _ => o.sl.length - (intOf i).toNat)
  case atStart => exact ⟨0, 0, by omega, rfl, rfl, L, hlt, B0, rfl⟩
  case round =>
    clear L hlt B0
    obtain ⟨k, m, hk, rfl, rfl, LR, hlt, BR, HP⟩ := hrel
    by_cases hkn : k < o.sl.length
    · obtain ⟨b, u, rfl, hltb, hc0, hc1, hc2, hc3, hc4, hc5⟩ := (IS.on LR).at k hkn
      have HS : Hid (lastF dv (if o.sl[k].dv = dv then min (max m o.sl[k].no) 1000 else m) (o.sl.drop (k + 1)) = lastF dv 0 o.sl) := by
        have := HP.out
        rw [List.drop_eq_getElem_cons hkn] at this
        exact this
      have HF : Hid (∀ n : Int, hasN dv (o.sl.take (k + 1)) n = (hasN dv (o.sl.take k) n || (decide (o.sl[k].dv = dv) && decide (o.sl[k].no = n)))) := fun n => has_step hkn n
      clear HP
      generalize o.sl[k] = p at *
      have N := new_below wr (.cells #[.int .i64 p.dv, .int .i64 p.no, .int .i64 p.tk, .int .i64 p.tr, .int .i64 p.dy, .int .i64 p.sa] 37)
      have LN := join_below LR N
      have BN := BR.on N hlt
      have hltN : w.heap.size + 1 < (wr.alloc (.cells #[.int .i64 p.dv, .int .i64 p.no, .int .i64 p.tk, .int .i64 p.tr, .int .i64 p.dy, .int .i64 p.sa] 37)).heap.size := Nat.lt_of_lt_of_le hlt N.size
      by_cases h1 : p.dv = dv
      · have d1 : (p.dv != dv) = false := by simp [h1]
        have HS2 : Hid (lastF dv (min (max m p.no) 1000) (o.sl.drop (k + 1)) = lastF dv 0 o.sl) := by
          have := HS.out
          rw [if_pos h1] at this
          exact this
        have HF2 : Hid (∀ n : Int, hasN dv (o.sl.take (k + 1)) n = (hasN dv (o.sl.take k) n || decide (p.no = n))) := fun n => by
          rw [HF.out n, decide_eq_true h1, Bool.true_and]
        have HS3 : Hid (∀ z : Int, z = min (max m p.no) 1000 → Hid (lastF dv z (o.sl.drop (k + 1)) = lastF dv 0 o.sl)) := fun z e => by rw [e]; exact HS2
        have HCS : (m < p.no ∧ 1000 < p.no) ∨ (m < p.no ∧ ¬ 1000 < p.no) ∨ (¬ m < p.no ∧ 1000 < m) ∨ (¬ m < p.no ∧ ¬ 1000 < m) := by omega
        clear HS2
        have HBT : Hid (∀ W : World, _) := fun W => btw_val p.no 1 1000 W
        clear h1 HS HF
        cases hb : inB p.no 1 1000
        · have BN2 : Bl _ (w.heap.size + 1) (hasN dv (o.sl.take (k + 1))) := BN.to fun n n1 n2 => by
            rw [HF2.out n, decide_eq_false (fun e => by rw [e] at hb; unfold inB at hb; simp at hb; omega), Bool.or_false]
          rw [hb] at HBT
          clear hb BN BR HF2 N
          rcases HCS with ⟨h5, h6⟩ | ⟨h5, h6⟩ | ⟨h5, h6⟩ | ⟨h5, h6⟩
          all_goals
            go_wp2_with fail
            refine (HBT.out _).mono ?_
            rintro e w1 ⟨rfl, rfl⟩
            go_wp2
            go_roundw
            case rel => exact ⟨k + 1, _, by omega, by go_num, rfl, LN, hltN, BN2, HS3.out _ (by omega)⟩
            case measure => simp [intOf]; omega
        · rw [hb] at HBT
          generalize p.no = pn at *
          obtain ⟨q, rfl⟩ : ∃ q : Nat, pn = (q : Int) := ⟨pn.toNat, by unfold inB at hb; simp at hb; omega⟩
          have hq1 : 1 ≤ q ∧ q ≤ 1000 := by unfold inB at hb; simp at hb; omega
          have hf := (BR q hq1.1 hq1.2).2
          have hcq := (BR q hq1.1 hq1.2).1
          have BS : Bl (wr.setCell ⟨w.heap.size + 1, q, none⟩ (.bool true)) (w.heap.size + 1) (hasN dv (o.sl.take (k + 1))) := Bl.set (m := q) BR fun n n1 n2 => by
            rw [HF2.out n]
            congr 1
            simp only [decide_eq_decide]
            omega
          have LS := LR.setCell (p := ⟨w.heap.size + 1, q, none⟩) (show w.heap.size ≤ w.heap.size + 1 by omega) (.bool true)
          have hS : w.heap.size + 1 < (wr.setCell ⟨w.heap.size + 1, q, none⟩ (.bool true)).heap.size := by rw [World.size_setCell]; exact hlt
          have NS := new_below (wr.setCell ⟨w.heap.size + 1, q, none⟩ (.bool true)) (.cells #[.int .i64 p.dv, .int .i64 (q : Int), .int .i64 p.tk, .int .i64 p.tr, .int .i64 p.dy, .int .i64 p.sa] 37)
          have LN2 := join_below LS NS
          have BN2 := BS.on NS hS
          have hltN2 := Nat.lt_of_lt_of_le hS NS.size
          have hne : wr.heap.size ≠ w.heap.size + 1 := by omega
          clear BS LS hS NS
          have hqb : (q : Int) < 1001 := by omega
          have hqc : q < 1001 := by omega
          clear hb BN BR HF2 N
          have HC3 : (m < (q : Int) ∧ ¬ 1000 < (q : Int)) ∨ (¬ m < (q : Int) ∧ 1000 < m) ∨ (¬ m < (q : Int) ∧ ¬ 1000 < m) := by omega
          clear HCS
          rcases HC3 with ⟨h5, h6⟩ | ⟨h5, h6⟩ | ⟨h5, h6⟩
          all_goals
            go_wp2_with fail
            refine (HBT.out _).mono ?_
            rintro e w1 ⟨rfl, rfl⟩
            go_wp2
            go_roundw
            case rel => exact ⟨k + 1, _, by omega, by go_num, rfl, LN2, hltN2, BN2, HS3.out _ (by omega)⟩
            case measure => simp [intOf]; omega
      · have d1 : (p.dv != dv) = true := by simp [h1]
        have HS2 : Hid (lastF dv m (o.sl.drop (k + 1)) = lastF dv 0 o.sl) := by
          have := HS.out
          rw [if_neg h1] at this
          exact this
        have BN2 : Bl _ (w.heap.size + 1) (hasN dv (o.sl.take (k + 1))) := BN.to fun n _ _ => by
          rw [HF.out n, decide_eq_false h1, Bool.false_and, Bool.or_false]
        clear h1 HS HF BN BR N
        go_wp2
        go_roundw
        case rel => exact ⟨k + 1, m, by omega, by go_num, rfl, LN, hltN, BN2, HS2⟩
        case measure => simp [intOf]; omega
    · obtain rfl : k = o.sl.length := by omega
      have hm : m = (topN dv o.sl : Int) := by
        have := HP.out
        rw [List.drop_length] at this
        exact this.trans HT.out
      subst hm
      rw [List.take_length] at BR
      clear HP hkn HT
      go_wp2
      generalize topN dv o.sl = T at *
      generalize wr = wq at *
      have O0 : Hid (wq.ownsRow wq.heap.size 3 1 (.slice none 0 0) (missF dv o.sl 0).length (icells (missF dv o.sl 0))) := none_row _ _ _ _
      go_loopw [9, 10] (fun v i wr => ∃ (k j : Nat), k ≤ T + 1 ∧ Hid (k = j + 1) ∧ i = .int .i64 k ∧ Below wq.heap.size wq wr ∧ Hid (wr.ownsRow wq.heap.size 3 1 v (missF dv o.sl j).length (icells (missF dv o.sl j)))) (fun _ i _ => T + 1 - (intOf i).toNat)
      case atStart => exact ⟨1, 0, by omega, rfl, rfl, Below.refl _ _, O0⟩
      case round =>
        clear O0
        obtain ⟨k, j, hk, HJ, rfl, LX, HO⟩ := hrel
        have hj := HJ.out
        have BX := BR.on LX hlt
        by_cases hkT : k ≤ T
        · obtain ⟨hcx, -⟩ := BX k (by omega) (by omega)
          have hmj := miss_len dv o.sl j
          have hj10 : j ≤ 1000 := by omega
          have O1 := HO.out
          obtain ⟨va, vc, rfl, -⟩ := own_form O1
          have hk10 : k < 1001 := by omega
          cases hv : hasN dv o.sl (k : Int)
          · rw [hv] at hcx
            have HM : Hid (missF dv o.sl k = missF dv o.sl j ++ [(k : Int)]) := miss_no hj hv
            have N5 := new_below wr (.cells #[.int .i64 (k : Int)] 3)
            have LX5 := join_below LX N5
            have O5 := own_below O1 N5 (Nat.le_refl _)
            clear hv hj HO O1 BX
            generalize missF dv o.sl j = d at *
            go_wp2_with (at_builtin; refine wpList_append_own_at _ rfl _ _ 24 rfl wq.heap.size 3 i0 (.int .i64 0) 1 8 Try.underlying24 hi hz0 hz1 hz3 rfl (by decide) _ _ _ rfl O5 ⟨wr.heap.size, 0, none⟩ 1 1 [.int .i64 (k : Int)] rfl rfl ?c1 ?c2 ?c3 ?c4 ?c5 ?_)
            case c1 => exact one_new _ _ _
            case c2 => intro u hu; simp at hu; subst hu; rfl
            case c3 => unfold maxLen; omega
            case c4 => omega
            case c5 => simp; have := LX.size; omega
            intro v' w6 O6 G6 _ _
            have L6 : Below wq.heap.size wq w6 := LX5.grown G6 LX5.size (fun j hj => (O5.lt j hj).1)
            rw [icells_snoc, ← HM.out] at O6
            have HO6 : Hid (w6.ownsRow wq.heap.size 3 1 v' (missF dv o.sl k).length (icells (missF dv o.sl k))) := by
              show w6.ownsRow _ _ _ _ _ _
              rw [HM.out] at O6 ⊢
              simpa using O6
            clear O5 O6 G6 N5 LX5 HM
            go_wp2
            go_roundw
            case rel => exact ⟨k + 1, k, by omega, rfl, by go_num, L6, HO6⟩
            case measure => simp [intOf]; omega
          · rw [hv] at hcx
            have HM : Hid (missF dv o.sl k = missF dv o.sl j) := miss_yes hj hv
            have HO6 : Hid (wr.ownsRow wq.heap.size 3 1 (.slice va (missF dv o.sl j).length vc) (missF dv o.sl k).length (icells (missF dv o.sl k))) := by
              show wr.ownsRow _ _ _ _ _ _
              rw [HM.out]
              exact O1
            clear hv hj HO O1 BX HM
            go_wp2
            go_roundw
            case rel => exact ⟨k + 1, k, by omega, rfl, by go_num, LX, HO6⟩
            case measure => simp [intOf]; omega
        · obtain rfl : j = T := by omega
          have O1 := HO.out
          obtain ⟨va, vc, rfl, -⟩ := own_form O1
          have O2 : Hid (wr.ownsRow w.heap.size 3 1 (.slice va (missF dv o.sl j).length vc) (missF dv o.sl j).length (icells (missF dv o.sl j))) := own_lower O1 LR.size
          have LL := LR.trans (LX.mono LR.size)
          have hkT2 : ¬ (k : Int) ≤ (j : Int) := by omega
          clear HO O1 BX LX hj
          go_wp2
          go_ret
          exact ⟨_, rfl, by rw [HL.out]; exact O2.out, LL⟩

end Hn
end Go.Proofs.Ytbmfhdlbbaabgaa
