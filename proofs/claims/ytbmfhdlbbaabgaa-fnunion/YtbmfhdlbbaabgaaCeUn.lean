/- The mathematics of deliveries: what came is there, once, and nothing else; what was taken off. -/
import Derived.Test.YtbmfhdlbbaabgaaCeFstM
namespace Go.Proofs.Ytbmfhdlbbaabgaa
namespace Hn
set_option linter.unusedSimpArgs false
set_option linter.unusedVariables false

theorem putC_ge (l : List Ct) (x : Ct) : l.length ≤ (putC l x).length := by
  unfold putC
  split
  · exact Nat.le_refl _
  · rw [insC_len]; omega

theorem fold_ge : ∀ (m : List Ct) (l : List Ct), l.length ≤ (m.foldl putC l).length
  | [], _ => Nat.le_refl _
  | x :: m, l => Nat.le_trans (putC_ge l x) (fold_ge m (putC l x))

theorem fold_le : ∀ (m : List Ct) (l : List Ct), (m.foldl putC l).length ≤ l.length + m.length
  | [], _ => Nat.le_refl _
  | x :: m, l => by
    have h1 := fold_le m (putC l x)
    have h2 := putC_len l x
    show (m.foldl putC (putC l x)).length ≤ l.length + (m.length + 1)
    omega

theorem put_sub {l : List Ct} {x y : Ct} (h : y ∈ l) : y ∈ putC l x := by
  unfold putC
  split
  · exact h
  · exact insC_mem.2 (Or.inr h)

theorem fold_sub : ∀ (m : List Ct) {l : List Ct} {y : Ct}, y ∈ l → y ∈ m.foldl putC l
  | [], _, _, h => h
  | x :: m, l, y, h => fold_sub m (put_sub h)

theorem put_has {l : List Ct} (x : Ct) (hl : l.length < 600) : ∃ y ∈ putC l x, kc y = kc x := by
  unfold putC
  split
  · rename_i h
    rcases h with h | h
    · exact has_yes h
    · omega
  · exact ⟨x, insC_mem.2 (Or.inl rfl), rfl⟩

theorem fold_has : ∀ (m : List Ct) {l : List Ct}, (m.foldl putC l).length < 600 → ∀ x ∈ m, ∃ y ∈ m.foldl putC l, kc y = kc x
  | [], _, _, x, hx => by simp at hx
  | a :: m, l, hl, x, hx => by
    rcases List.mem_cons.1 hx with rfl | hx
    · obtain ⟨y, hy, e⟩ := put_has (l := l) x (by have := fold_ge (x :: m) l; omega)
      exact ⟨y, fold_sub m hy, e⟩
    · exact fold_has m hl x hx

theorem fold_same : ∀ (m : List Ct) {S : List Ct}, AscC S → (∀ x ∈ m, ∃ y ∈ S, kc y = kc x) → m.foldl putC S = S
  | [], _, _, _ => rfl
  | a :: m, S, hA, h => by
    obtain ⟨y, hy, e⟩ := h a (by simp)
    show m.foldl putC (putC S a) = S
    rw [fst_there hA (look_is hA hy e)]
    exact fold_same m hA fun x hx => h x (by simp [hx])

theorem asc_of : ∀ {l : List Ct}, AscC l → ascB l = true
  | [], _ => rfl
  | [a], _ => rfl
  | a :: b :: t, h => by
    obtain ⟨h1, h2⟩ := List.pairwise_cons.1 h
    simp only [ascB, Bool.and_eq_true]
    exact ⟨h1 b (by simp), asc_of h2⟩

theorem del_fold (l m : List Ct) : delF l m m.length = m.foldl putC l := by
  unfold delF
  rw [List.take_length]

theorem cen_parts {o : Ctr} (h : cenB o = true) : 0 ≤ o.ve ∧ offB o.ol = true ∧ o.sl.length ≤ 600 ∧ AscC o.sl := by
  have h2 := cen_ctls h
  refine ⟨?_, cen_off h, h2.1, ascC_of h2.2⟩
  unfold cenB at h
  simp at h
  exact h.1

theorem cen_made {o : Ctr} (h0 : 0 ≤ o.ve) (h1 : offB o.ol = true) (h2 : o.sl.length ≤ 600) (h3 : AscC o.sl) : cenB o = true := by
  rw [cen_is h0 h1, ctl_short h2]
  exact asc_of h3

/-- A right centre stays right. -/
theorem cen_del {o : Ctr} (m : List Ct) (h : cenB o = true) : cenB (delO true o m) = true := by
  obtain ⟨h0, h1, h2, h3⟩ := cen_parts h
  refine cen_made (o := delO true o m) h0 h1 ?_ ?_
  · exact delF_len m h2 m.length
  · show AscC (delF o.sl m m.length)
    rw [del_fold]
    exact ascC_fold m h3

/-- What is delivered again changes nothing, as long as there is room. -/
theorem del_again {o : Ctr} (m : List Ct) (h : cenB o = true) (hl : (delF o.sl m m.length).length < 600) : delF (delF o.sl m m.length) m m.length = delF o.sl m m.length := by
  obtain ⟨h0, h1, h2, h3⟩ := cen_parts h
  rw [del_fold] at hl ⊢
  rw [del_fold]
  exact fold_same m (ascC_fold m h3) (fold_has m hl)

/-- How many have its device and its number. -/
def cntC (x : Ct) (l : List Ct) : Nat := l.countP fun y => decide (y.dv = x.dv) && decide (y.no = x.no)

theorem cnt_no {x : Ct} {l : List Ct} (h : ∀ y ∈ l, kc y ≠ kc x) : cntC x l = 0 := by
  unfold cntC
  rw [List.countP_eq_zero]
  intro y hy
  simp only [Bool.and_eq_true, decide_eq_true_eq]
  exact fun e => h y hy (kc_eq.2 e)

theorem cnt_one : ∀ {S : List Ct} {x : Ct}, AscC S → (∃ y ∈ S, kc y = kc x) → cntC x S = 1
  | [], _, _, ⟨y, hy, _⟩ => by simp at hy
  | a :: t, x, hA, ⟨y, hy, e⟩ => by
    obtain ⟨h1, h2⟩ := List.pairwise_cons.1 hA
    unfold cntC
    rw [List.countP_cons]
    by_cases ha : kc a = kc x
    · have h0 : cntC x t = 0 := cnt_no fun z hz ez => kc_ne (h1 z hz) (ha.trans ez.symm)
      unfold cntC at h0
      rw [h0, if_pos]
      simp only [Bool.and_eq_true, decide_eq_true_eq]
      exact kc_eq.1 ha
    · have hyt : y ∈ t := by
        rcases List.mem_cons.1 hy with rfl | hy
        · exact absurd e ha
        · exact hy
      have h0 := cnt_one h2 ⟨y, hyt, e⟩
      unfold cntC at h0
      rw [h0, if_neg]
      simp only [Bool.and_eq_true, decide_eq_true_eq]
      exact fun h => ha (kc_eq.2 h)

theorem cnt_step {x : Ct} {l : List Ct} {k : Nat} (hk : k < l.length) : cntC x (l.take (k + 1)) = cntC x (l.take k) + (if l[k].dv = x.dv ∧ l[k].no = x.no then 1 else 0) := by
  unfold cntC
  rw [List.take_succ_eq_append_getElem hk, List.countP_append, List.countP_cons, List.countP_nil]
  simp

theorem cnt_le (x : Ct) (l : List Ct) : cntC x l ≤ l.length := List.countP_le_length

theorem del_one {o : Ctr} {m : List Ct} (h : cenB o = true) (hl : (delF o.sl m m.length).length < 600) (i : Nat) (hi : i < m.length) : cntC m[i] (delF o.sl m m.length) = 1 := by
  obtain ⟨h0, h1, h2, h3⟩ := cen_parts h
  rw [del_fold] at hl ⊢
  exact cnt_one (ascC_fold m h3) (fold_has m hl _ (List.getElem_mem hi))

theorem del_size (o : Ctr) (m : List Ct) : o.sl.length ≤ (delF o.sl m m.length).length ∧ (delF o.sl m m.length).length ≤ o.sl.length + m.length := by
  rw [del_fold]
  exact ⟨fold_ge m o.sl, fold_le m o.sl⟩

theorem del_wfs {l m : List Ct} (h1 : Wfs l) (h2 : Wfs m) (k : Nat) : Wfs (delF l m k) := by
  intro p hp
  unfold delF at hp
  rcases fold_mem _ hp with h | h
  · exact h1 p h
  · exact h2 p (List.mem_of_mem_take h)

theorem insI_mem (x : Int) (l : List Int) : x ∈ insI x l := by
  rw [ins_is]
  simp

/-- What is taken off is not taken off again. -/
theorem rev_again {o : Ctr} {x : Int} (h : revB o x = true) : revB (revO true o x) x = false := by
  cases hc : cenB (revO true o x)
  · exact rev_no0 hc
  · exact rev_has hc (insI_mem x o.ol)

theorem rev_off {o : Ctr} {x : Int} (h : revB o x = true) : offB (revO true o x).ol = true := by
  unfold revB at h
  simp only [Bool.and_eq_true] at h
  exact h.2

end Hn
end Go.Proofs.Ytbmfhdlbbaabgaa
