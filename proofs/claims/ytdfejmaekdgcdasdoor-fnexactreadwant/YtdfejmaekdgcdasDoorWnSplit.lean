/- The words of a want's line, read one behind the other: the mathematics. -/
import Derived.Test.YtdfejmaekdgcdasDoorWnPure
namespace Go.Proofs.YtdfejmaekdgcdasDoor
namespace Wn
open Go.ChangeShapes Go.WideShapes Go.ChangeAt Go.RowKit
open Tk (Nums)
open Num (decS)
open Gt (bl bl_ext bl_append bl_length bl_extract dec_bl dec_no dec_read dec_val' Rd vl rv rv_yes split split_list splG splG_run)
set_option linter.unusedSimpArgs false
set_option linter.unusedVariables false

theorem splG_ne (c : UInt8) : ∀ (l cur : List UInt8), splG c l cur ≠ []
  | [], cur => by simp [splG]
  | x :: l, cur => by
    unfold splG
    split
    · simp
    · exact splG_ne c l _

theorem splG_sum (c : UInt8) : ∀ (l cur : List UInt8), ((splG c l cur).map fun x => x.length + 1).sum = l.length + cur.length + 1
  | [], cur => by simp [splG]
  | x :: l, cur => by
    unfold splG
    split
    · rw [List.map_cons, List.sum_cons, splG_sum c l []]
      simp
      omega
    · rw [splG_sum c l _]
      simp
      omega

theorem splG_flat (zs : List Int) (t : List UInt8) (hz : Nums zs) : splG 32 (flat zs ++ t) [] = (zs.map fun z => bl (decS z)) ++ splG 32 t [] := by
  induction zs with
  | nil => rfl
  | cons z zs ih =>
    have h0 := hz z List.mem_cons_self
    rw [flat_cons, List.append_assoc, List.cons_append, splG_run 32 _ _ [] (dec_blank h0.1), List.nil_append, ih (fun y hy => hz y (List.mem_cons_of_mem _ hy))]
    rfl

/-- Where the words ahead of word k end. -/
def atN (ws : List ByteArray) (k : Nat) : Nat := ((ws.take k).map fun x => x.size + 1).sum

theorem atN_step (ws : List ByteArray) (k : Nat) (h : k < ws.length) : atN ws (k + 1) = atN ws k + ws[k].size + 1 := by
  unfold atN
  rw [List.take_succ_eq_append_getElem h, List.map_append, List.sum_append]
  simp
  omega

theorem atN_all (s : ByteArray) : atN (split 32 s) (split 32 s).length = s.size + 1 := by
  unfold atN
  rw [List.take_length]
  have h := splG_sum 32 (bl s) []
  rw [← split_list, List.map_map, bl_length] at h
  have e : (fun x : ByteArray => x.size + 1) = (fun x : List UInt8 => x.length + 1) ∘ bl := by
    funext x
    show _ = (bl x).length + 1
    rw [bl_length]
  rw [e, h]
  simp

theorem atN_mono (ws : List ByteArray) : ∀ d k, k + d ≤ ws.length → atN ws k ≤ atN ws (k + d)
  | 0, k, _ => Nat.le_refl _
  | d + 1, k, h => by
    have := atN_mono ws d k (by omega)
    rw [show k + (d + 1) = k + d + 1 from by omega, atN_step ws (k + d) (by omega)]
    omega

theorem atN_le (s : ByteArray) (k : Nat) (h : k + 1 ≤ (split 32 s).length) : atN (split 32 s) k ≤ s.size := by
  have h1 := atN_step (split 32 s) k (by omega)
  have h2 := atN_mono (split 32 s) ((split 32 s).length - (k + 1)) (k + 1) (by omega)
  rw [show k + 1 + ((split 32 s).length - (k + 1)) = (split 32 s).length from by omega, atN_all] at h2
  omega

/-- Word i. -/
abbrev wd (ws : List ByteArray) (i : Nat) : ByteArray := ws.getD i ⟨#[]⟩

theorem wd_at (ws : List ByteArray) (i : Nat) (h : i < ws.length) : wd ws i = ws[i] := by
  unfold wd
  rw [List.getD_eq_getElem?_getD, List.getElem?_eq_getElem h]
  rfl

/-- Where the reading of words ends. -/
structure Stop (ws : List ByteArray) (k : Nat) : Prop where
  k30 : k ≤ 30
  kw : k + 1 ≤ ws.length
  rd : ∀ i, i < k → Rd (wd ws i)
  six : ∀ i, 6 ≤ i → i < k → i < 6 + 4 * vl (wd ws 5)
  stop : k + 1 = ws.length ∨ k = 30 ∨ ¬ Rd (wd ws k) ∨ (6 ≤ k ∧ 6 + 4 * vl (wd ws 5) ≤ k)

theorem words_of {s : ByteArray} {zs : List Int} {t : List UInt8} (hz : Nums zs) (hs : bl s = flat zs ++ t) : zs.length + 1 ≤ (split 32 s).length ∧ ∀ i (h : i < zs.length), wd (split 32 s) i = decS zs[i] := by
  have h := split_list 32 s
  rw [hs, splG_flat zs t hz] at h
  have hl : (split 32 s).length = zs.length + (splG 32 t []).length := by
    have := congrArg List.length h
    simpa using this
  have hne : 0 < (splG 32 t []).length := List.length_pos_iff.2 (splG_ne 32 t [])
  refine ⟨by omega, fun i hi => ?_⟩
  rw [wd_at _ i (by omega)]
  apply bl_ext
  have h2 : ((split 32 s).map bl)[i]? = ((zs.map fun z => bl (decS z)) ++ splG 32 t [])[i]? := by rw [h]
  rw [List.getElem?_map, List.getElem?_eq_getElem (by omega), List.getElem?_append_left (by simpa using hi), List.getElem?_map, List.getElem?_eq_getElem hi] at h2
  simpa using h2

/-- What the words tell. -/
def hW (ws : List ByteArray) : Wh := ⟨(vl (wd ws 0) : Nat), (vl (wd ws 1) : Nat), (vl (wd ws 2) : Nat), (vl (wd ws 3) : Nat), (vl (wd ws 4) : Nat)⟩
def rW (ws : List ByteArray) (j : Nat) : Rd.Ri := ⟨(vl (wd ws (6 + 4 * j)) : Nat), (vl (wd ws (6 + 4 * j + 1)) : Nat), (vl (wd ws (6 + 4 * j + 2)) : Nat), (vl (wd ws (6 + 4 * j + 3)) : Nat)⟩
def rsW (ws : List ByteArray) (n : Nat) : List Rd.Ri := (List.range n).map (rW ws)
def nmW (s : ByteArray) (k : Nat) : ByteArray := s.extract (atN (split 32 s) k) s.size

theorem rsW_length (ws : List ByteArray) (n : Nat) : (rsW ws n).length = n := by simp [rsW]
theorem rsW_at (ws : List ByteArray) (n j : Nat) (h : j < (rsW ws n).length) : (rsW ws n)[j] = rW ws j := by simp [rsW]
theorem rsW_step (ws : List ByteArray) (n : Nat) : rsW ws (n + 1) = rsW ws n ++ [rW ws n] := by
  unfold rsW
  rw [List.range_succ, List.map_append]
  rfl

theorem flat_rz (rs : List Rd.Ri) (j : Nat) (h : j < rs.length) : (rs.flatMap rz)[4 * j]? = some rs[j].tr ∧ (rs.flatMap rz)[4 * j + 1]? = some rs[j].dy ∧ (rs.flatMap rz)[4 * j + 2]? = some rs[j].fr ∧ (rs.flatMap rz)[4 * j + 3]? = some rs[j].to := by
  induction rs generalizing j with
  | nil => simp at h
  | cons q rs ih =>
    have e0 : (q :: rs).flatMap rz = q.tr :: q.dy :: q.fr :: q.to :: rs.flatMap rz := rfl
    rw [e0]
    cases j with
    | zero => exact ⟨rfl, rfl, rfl, rfl⟩
    | succ j =>
      have := ih j (by simpa using h)
      rw [show 4 * (j + 1) = 4 * j + 4 from by omega]
      simpa using this

theorem stop_good {s : ByteArray} {k : Nat} {t : Wh} {nm : ByteArray} {ls : List Rd.Ri} (St : Stop (split 32 s) k) (G : Good s t nm ls) : k = 6 + 4 * ls.length ∧ vl (wd (split 32 s) 5) = ls.length ∧ hW (split 32 s) = t ∧ nmW s k = nm ∧ rsW (split 32 s) ls.length = ls := by
  obtain ⟨hn, hl, -⟩ := wl_parts G.1
  have hs : bl s = flat (wz t ls) ++ bl nm := by rw [← G.2, bl_append, dl_bl]
  have hlen := wz_length t ls
  obtain ⟨w1, w2⟩ := words_of hn hs
  have hv : ∀ i (h : i < (wz t ls).length), Rd (wd (split 32 s) i) ∧ (vl (wd (split 32 s) i) : Int) = (wz t ls)[i] := fun i h => by
    rw [w2 i h]
    exact dec_rd (hn _ (List.getElem_mem h))
  have h5 : vl (wd (split 32 s) 5) = ls.length := by
    have e := (hv 5 (by omega)).2
    have e2 : (wz t ls)[5] = (ls.length : Int) := rfl
    rw [e2] at e
    omega
  have hk : k = 6 + 4 * ls.length := by
    have h30 := St.k30
    apply Nat.le_antisymm
    · apply Nat.le_of_not_lt
      intro hlt
      have := St.six (6 + 4 * ls.length) (by omega) hlt
      rw [h5] at this
      omega
    · apply Nat.le_of_not_lt
      intro hlt
      rcases St.stop with e | e | e | e
      · omega
      · omega
      · exact e (hv k (by omega)).1
      · rw [h5] at e
        omega
  refine ⟨hk, h5, ?_, ?_, ?_⟩
  · unfold hW
    rw [(hv 0 (by omega)).2, (hv 1 (by omega)).2, (hv 2 (by omega)).2, (hv 3 (by omega)).2, (hv 4 (by omega)).2]
    rfl
  · have hat : ∀ m, m ≤ (wz t ls).length → atN (split 32 s) m = (flat ((wz t ls).take m)).length := by
      intro m
      induction m with
      | zero => intro _; rfl
      | succ m ih =>
        intro hm
        rw [atN_step _ m (by omega), ih (by omega), ← wd_at _ m (by omega), w2 m (by omega), List.take_succ_eq_append_getElem (by omega)]
        unfold flat
        rw [List.flatMap_append, List.length_append]
        simp
        omega
    have e := hat k (by omega)
    rw [show k = (wz t ls).length from by omega, List.take_length] at e
    apply bl_ext
    unfold nmW
    rw [bl_extract, show k = (wz t ls).length from by omega, e, hs, List.take_of_length_le (by rw [← hs, bl_length]; exact Nat.le_refl _), List.drop_left]
  · apply List.ext_getElem
    · rw [rsW_length]
    · intro j h1 h2
      rw [rsW_at]
      obtain ⟨f0, f1, f2, f3⟩ := flat_rz ls j h2
      have hw : ∀ m, (wz t ls)[6 + m]? = (ls.flatMap rz)[m]? := fun m => by
        unfold wz
        rw [List.getElem?_append_right (by simp)]
        congr 1
        simp
      have g0 := (hv (6 + 4 * j) (by omega)).2
      have g1 := (hv (6 + 4 * j + 1) (by omega)).2
      have g2 := (hv (6 + 4 * j + 2) (by omega)).2
      have g3 := (hv (6 + 4 * j + 3) (by omega)).2
      have e0 := hw (4 * j)
      have e1 := hw (4 * j + 1)
      have e2 := hw (4 * j + 2)
      have e3 := hw (4 * j + 3)
      rw [f0, List.getElem?_eq_getElem (by omega)] at e0
      rw [f1, List.getElem?_eq_getElem (by omega)] at e1
      rw [f2, List.getElem?_eq_getElem (by omega)] at e2
      rw [f3, List.getElem?_eq_getElem (by omega)] at e3
      unfold rW
      rw [g0, g1, g2, g3]
      have k0 := Option.some.inj e0
      have k1 := Option.some.inj e1
      have k2 := Option.some.inj e2
      have k3 := Option.some.inj e3
      show (⟨(wz t ls)[6 + 4 * j], (wz t ls)[6 + (4 * j + 1)], (wz t ls)[6 + (4 * j + 2)], (wz t ls)[6 + (4 * j + 3)]⟩ : Rd.Ri) = ls[j]
      rw [k0, k1, k2, k3]

theorem few_no {s : ByteArray} (h : (split 32 s).length < 7) (t : Wh) (nm : ByteArray) (ls : List Rd.Ri) : ¬ Good s t nm ls := fun G => by
  obtain ⟨hn, hl, -⟩ := wl_parts G.1
  have hs : bl s = flat (wz t ls) ++ bl nm := by rw [← G.2, bl_append, dl_bl]
  have hlen := wz_length t ls
  have := (words_of hn hs).1
  omega

end Wn
end Go.Proofs.YtdfejmaekdgcdasDoor
