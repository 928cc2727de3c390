/- What guessTicket guesses of a ticket's plain text is the ticket: the mathematics. -/
import Derived.Test.YtbfgfedblnldcaaDoorGtGuess
import Derived.Test.YtbfgfedblnldcaaDoorGtShape2
namespace Go.Proofs.YtbfgfedblnldcaaDoor
namespace Gt
open Go.ChangeShapes Go.WideShapes Go.ChangeAt Go.RowKit
open Tk (Lg Hd okB putT Nums okB_parts)
open Num (decS)
set_option linter.unusedSimpArgs false
set_option linter.unusedVariables false

theorem index_one (c : UInt8) : ∀ (a r : List UInt8), c ∉ a → Lib.index (a ++ c :: r) [c] = (a.length : Int)
  | [], r, _ => by
    rw [List.nil_append, Lib.index, if_pos (by simp [List.isPrefixOf])]
    rfl
  | x :: a, r, h => by
    rw [List.mem_cons, not_or] at h
    rw [List.cons_append, Lib.index, if_neg (by simp [List.isPrefixOf]; exact h.1), index_one c a r h.2]
    rw [if_neg (by simp), List.length_cons]
    omega

theorem index_none (c : UInt8) : ∀ (a : List UInt8), c ∉ a → Lib.index a [c] = -1
  | [], _ => by simp [Lib.index]
  | x :: a, h => by
    rw [List.mem_cons, not_or] at h
    rw [Lib.index, if_neg (by simp [List.isPrefixOf]; exact h.1), index_none c a h.2]
    rfl

theorem cut_at (a r : List UInt8) (h : (10 : UInt8) ∉ a) : Lib.cut (a ++ 10 :: r) [10] = (a, r, true) := by
  unfold Lib.cut
  rw [index_one 10 a r h, if_pos (by omega), Int.toNat_natCast]
  have e : ([10] : List UInt8).length = 1 := rfl
  rw [e, List.take_left, List.drop_append, List.drop_eq_nil_of_le (by omega)]
  simp

theorem ct_at {s : ByteArray} {a r : List UInt8} (hs : bl s = a ++ 10 :: r) (h : (10 : UInt8) ∉ a) : bl (ctA s) = a ∧ bl (ctR s) = r := by
  unfold ctA ctR
  rw [show s.data.toList = a ++ 10 :: r from hs, cut_at a r h]
  exact ⟨rfl, rfl⟩

theorem splitK_words (a : List UInt8) (ds : List (List UInt8)) (ha : (32 : UInt8) ∉ a) (hd : ∀ d ∈ ds, (32 : UInt8) ∉ d) : Lib.splitK [32] 0 ds.length (a ++ ds.flatMap fun d => 32 :: d) = a :: ds := by
  induction ds generalizing a with
  | nil => simp [Lib.splitK]
  | cons d ds ih =>
    have e : a ++ (d :: ds).flatMap (fun d => 32 :: d) = a ++ 32 :: (d ++ ds.flatMap (fun d => 32 :: d)) := by simp
    rw [e, List.length_cons, Lib.splitK, index_one 32 a _ ha, if_neg (by simp), Int.toNat_natCast]
    have e1 : ([32] : List UInt8).length = 1 := rfl
    rw [Nat.add_zero, List.take_left, e1, List.drop_append, List.drop_eq_nil_of_le (by omega)]
    have e2 : a.length + 1 - a.length = 1 := by omega
    rw [e2, List.nil_append, List.drop_succ_cons, List.drop_zero, ih d (hd d List.mem_cons_self) (fun b hb => hd b (List.mem_cons_of_mem _ hb))]

theorem flat_length (zs : List Int) : zs.length ≤ (zs.flatMap fun z => 32 :: bl (decS z)).length := by
  induction zs with
  | nil => simp
  | cons z zs ih =>
    rw [List.flatMap_cons, List.length_append, List.length_cons, List.length_cons]
    omega

theorem nAt_line {x wd : ByteArray} {zs : List Int} (hw : (32 : UInt8) ∉ bl wd) (hz : Nums zs) (hx : bl x = lineL (bl wd) zs) (j : Nat) (hj : j < zs.length) : (nAt x zs.length j : Int) = zs[j] := by
  have hsz : zs.length ≤ x.size := by
    rw [← bl_length, hx]
    unfold lineL
    rw [List.length_append]
    have := flat_length zs
    omega
  have h1 : (wordsN x zs.length).map bl = bl wd :: zs.map (fun z => bl (decS z)) := by
    have h2 := Lib.splitB_data ⟨#[32]⟩ 0 (min (zs.length + 1) (x.size + 1) - 1) x
    have h3 : (wordsN x zs.length).map bl = Lib.splitK [32] 0 (min (zs.length + 1) (x.size + 1) - 1) (bl x) := h2
    rw [h3, show min (zs.length + 1) (x.size + 1) - 1 = (zs.map fun z => bl (decS z)).length from by rw [List.length_map]; omega, hx]
    unfold lineL
    have e : (zs.flatMap fun z => 32 :: bl (decS z)) = (zs.map fun z => bl (decS z)).flatMap fun d => 32 :: d := by rw [List.flatMap_map]
    rw [e]
    refine splitK_words (bl wd) _ hw ?_
    intro d hd hm
    obtain ⟨z, hz1, rfl⟩ := List.mem_map.1 hd
    rw [dec_bl z (hz z hz1).1] at hm
    exact dec_no _ 32 (by decide) hm
  have hlen : (wordsN x zs.length).length = zs.length + 1 := by
    have := congrArg List.length h1
    simpa using this
  have hw1 : (wordsN x zs.length).getD (j + 1) ⟨#[]⟩ = decS zs[j] := by
    apply bl_ext
    have h4 : ((wordsN x zs.length).map bl)[j + 1]? = some (bl (decS zs[j])) := by
      rw [h1, List.getElem?_cons_succ, List.getElem?_map, List.getElem?_eq_getElem hj]
      rfl
    rw [List.getElem?_map] at h4
    rw [List.getD_eq_getElem?_getD]
    cases e : (wordsN x zs.length)[j + 1]? with
    | none => rw [e] at h4; cases h4
    | some y => rw [e] at h4; exact Option.some.inj h4
  have hb := hz zs[j] (List.getElem_mem hj)
  have hrd : Rd (decS zs[j]) ∧ vl (decS zs[j]) = zs[j].toNat := by
    unfold Rd vl
    rw [show (decS zs[j]).data.toList = Lib.decDigits zs[j].toNat from dec_bl _ hb.1]
    exact ⟨dec_read _ (by omega), dec_val' _⟩
  unfold nAt
  rw [if_pos (by omega), hw1, rv_yes hrd.1, hrd.2]
  omega

theorem lgI_line {x : ByteArray} {l : Lg} (hz : Nums (lZ l)) (hx : bl x = lLine l) : lgI x = l := by
  have h := fun j (hj : j < 6) => nAt_line (wd := legW) (zs := lZ l) (by decide) hz hx j hj
  unfold lgI
  have h0 := h 0 (by omega)
  have h1 := h 1 (by omega)
  have h2 := h 2 (by omega)
  have h3 := h 3 (by omega)
  have h4 := h 4 (by omega)
  have h5 := h 5 (by omega)
  rw [show (lZ l).length = 6 from rfl] at h0 h1 h2 h3 h4 h5
  rw [h0, h1, h2, h3, h4, h5]
  rfl

theorem gL_lines : ∀ (ls : List Lg) (n : Nat) (r : ByteArray), ls.length ≤ n → (∀ l ∈ ls, Nums (lZ l)) → bl r = (ls.map lLine).flatMap (fun a => a ++ [10]) → gL n r = ls
  | [], n, r, _, _, hr => gL_end (by rw [← bl_length, hr]; rfl)
  | l :: ls, n, r, hn, hz, hr => by
    obtain ⟨n', rfl⟩ : ∃ n', n = n' + 1 := ⟨n - 1, by simp at hn; omega⟩
    have hr2 : bl r = lLine l ++ 10 :: (ls.map lLine).flatMap (fun a => a ++ [10]) := by rw [hr]; simp
    have hno : (10 : UInt8) ∉ lLine l := line_no _ _ (by decide) (hz l List.mem_cons_self)
    obtain ⟨a1, a2⟩ := ct_at hr2 hno
    have hne : ¬ r.size = 0 := by
      rw [← bl_length, hr2, List.length_append, List.length_cons]
      omega
    rw [gL_step hne, lgI_line (hz l List.mem_cons_self) a1, gL_lines ls n' (ctR r) (by simp at hn; omega) (fun x hx => hz x (List.mem_cons_of_mem _ hx)) a2]

theorem guess_good {s : ByteArray} {t : Hd} {nm : ByteArray} {ls : List Lg} (h : Good s t nm ls) : gHd s = t ∧ gNm s = nm ∧ gLs s = ls := by
  obtain ⟨hok, hput⟩ := h
  obtain ⟨hn, hs40, hl6, hns⟩ := okB_parts t nm ls hok
  have hnm := name_no (ok_name hok)
  have hb : bl s = hLine t ++ 10 :: (nLine nm ++ 10 :: (ls.map lLine).flatMap (fun a => a ++ [10])) := by
    rw [← hput, put_bl t nm ls ls.length (Nat.le_refl _), List.take_of_length_le (Nat.le_refl _)]
    simp
  obtain ⟨a1, a2⟩ := ct_at hb (line_no _ _ (by decide) hn)
  obtain ⟨b1, b2⟩ := ct_at a2 hnm
  refine ⟨?_, ?_, ?_⟩
  · have h := fun j (hj : j < 5) => nAt_line (wd := headW) (zs := hZ t) (by decide) hn a1 j hj
    have h0 := h 0 (by omega)
    have h1 := h 1 (by omega)
    have h2 := h 2 (by omega)
    have h3 := h 3 (by omega)
    have h4 := h 4 (by omega)
    rw [show (hZ t).length = 5 from rfl] at h0 h1 h2 h3 h4
    unfold gHd
    rw [h0, h1, h2, h3, h4]
    rfl
  · apply bl_ext
    unfold gNm
    rw [show (ctA (ctR s)).data.toList = nLine nm from b1]
    unfold Lib.trimPrefix Lib.hasPrefix nLine
    rw [if_pos (by simp [List.isPrefixOf])]
    rfl
  · exact gL_lines ls 7 _ (by omega) hns b2

end Gt
end Go.Proofs.YtbfgfedblnldcaaDoor
