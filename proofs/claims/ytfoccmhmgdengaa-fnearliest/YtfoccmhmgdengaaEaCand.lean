/- The mathematics of the model's next ways: which hops go on behind a way, how many ends there are. -/
import Derived.Test.YtfoccmhmgdengaaEaRow
import Derived.Test.YtfoccmhmgdengaaTnRuns
import Derived.Test.YtfoccmhmgdengaaTnTrains
namespace Go.Proofs.Ytfoccmhmgdengaa
namespace Tn
set_option linter.unusedVariables false

theorem tok_step {t : Hd} {l : List St} (h : okB t l = true) (k : Nat) (hk : k < l.length) : stepB l k = true := by
  unfold okB stopsB at h
  simp only [Bool.and_eq_true] at h
  have h1 := h.2.2
  unfold stepsFrom at h1
  rw [List.drop_zero, List.all_eq_true] at h1
  exact h1 k (List.mem_range.2 hk)

theorem tok_stop {t : Hd} {l : List St} (h : okB t l = true) (k : Nat) (hk : k < l.length) : (1 ≤ l[k].st ∧ l[k].st ≤ 9999) ∧ (0 ≤ l[k].ar ∧ l[k].ar ≤ 4000) ∧ l[k].ar ≤ l[k].dp ∧ l[k].dp ≤ 4000 := by
  have h1 := tok_step h k hk
  rw [stepB_at l k hk] at h1
  unfold stB at h1
  simp only [Bool.and_eq_true] at h1
  have a := inB_yes h1.1.1.1.1
  have b := inB_yes h1.1.1.1.2
  have c := inB_yes h1.1.1.2
  exact ⟨a, b, c⟩

theorem tok_len {t : Hd} {l : List St} (h : okB t l = true) : 2 ≤ l.length ∧ l.length ≤ 20 := by
  unfold okB stopsB at h
  simp only [Bool.and_eq_true] at h
  have := inB_yes h.2.1
  omega

end Tn
namespace Rd
open Tn (Tr St idx dayBit z0 okB)
set_option linter.unusedSimpArgs false
set_option linter.unusedVariables false

def depAt (t : Tr) (a : Nat) : Int := (t.l.getD a z0).dp
def cand (w : Wy) (h : Hp) : Wy := ⟨w.p ++ [h], h.r.to, h.z⟩
def hopTo (t : Tr) (x d : Int) (a : Nat) (s : St) : Hp := ⟨⟨t.h.id, d, x, s.st⟩, 1440 * d + depAt t a, 1440 * d + s.ar⟩
def okDay (t : Tr) (a : Nat) (d y : Int) : Bool := decide (0 ≤ d) && (decide (dayBit t.h.dy d = 1) && decide (y ≤ 1440 * d + depAt t a))
def hopsD (t : Tr) (x : Int) (a : Nat) (d y : Int) : List Hp := if okDay t a d y = true then (t.l.drop (a + 1)).map (hopTo t x d a) else []
def hopsT (t : Tr) (x day y : Int) : List Hp := if idx t.l x 0 < 0 then [] else (List.range 4).flatMap fun (i : Nat) => hopsD t x (idx t.l x 0).toNat (day - 2 + (i : Int)) y
def ahead (first : Int) (w : Wy) : Int := if w.p.length = 0 then first else w.z + 3
def more (ts : List Tr) (day first : Int) (w : Wy) : List Hp := ts.flatMap fun t => hopsT t w.s day (ahead first w)

/-- Every hop of the days about the asked one. -/
def allH (ts : List Tr) (day : Int) : List Hp := ts.flatMap fun t => (List.range 4).flatMap fun (i : Nat) => if 0 ≤ day - 2 + (i : Int) ∧ dayBit t.h.dy (day - 2 + (i : Int)) = 1 then (List.range t.l.length).flatMap fun a => (t.l.drop (a + 1)).map (hopTo t (t.l.getD a z0).st (day - 2 + (i : Int)) a) else []

theorem ok_idx {t : Tr} (h : okB t.h t.l = true) (a : Nat) (ha : a < t.l.length) : idx t.l t.l[a].st 0 = a := by
  unfold okB Tn.stopsB Tn.stepsFrom at h
  simp only [Bool.and_eq_true] at h
  have h2 := h.2.2
  rw [List.drop_zero, List.all_eq_true] at h2
  have h3 := h2 a (List.mem_range.2 ha)
  unfold Tn.stepB at h3
  rw [Tn.getD_at t.l a ha] at h3
  simp only [Bool.and_eq_true, decide_eq_true_eq] at h3
  exact h3.1.2

theorem more_iff {ts : List Tr} {day first : Int} {w : Wy} (hok : ∀ t ∈ ts, okB t.h t.l = true) (h : Hp) :
    h ∈ more ts day first w ↔ h ∈ allH ts day ∧ h.r.fr = w.s ∧ ahead first w ≤ h.d := by
  unfold more allH
  constructor
  · intro hm
    obtain ⟨t, ht, hm⟩ := List.mem_flatMap.1 hm
    unfold hopsT at hm
    by_cases hi : idx t.l w.s 0 < 0
    · rw [if_pos hi] at hm; simp at hm
    · rw [if_neg hi] at hm
      rcases Tn.idx_is t.l w.s with ⟨e, -⟩ | ⟨k, hk, e, e1, -⟩
      · omega
      · rw [e, Int.toNat_natCast] at hm
        obtain ⟨i, hi4, hm⟩ := List.mem_flatMap.1 hm
        unfold hopsD at hm
        by_cases hd : okDay t k (day - 2 + (i : Int)) (ahead first w) = true
        · rw [if_pos hd] at hm
          obtain ⟨s, hs, rfl⟩ := List.mem_map.1 hm
          unfold okDay at hd
          simp only [Bool.and_eq_true, decide_eq_true_eq] at hd
          refine ⟨List.mem_flatMap.2 ⟨t, ht, List.mem_flatMap.2 ⟨i, hi4, ?_⟩⟩, rfl, hd.2.2⟩
          rw [if_pos ⟨hd.1, hd.2.1⟩]
          refine List.mem_flatMap.2 ⟨k, List.mem_range.2 hk, List.mem_map.2 ⟨s, hs, ?_⟩⟩
          rw [Tn.getD_at t.l k hk, e1]
        · rw [if_neg hd] at hm; simp at hm
  · rintro ⟨hm, hf, hy⟩
    obtain ⟨t, ht, hm⟩ := List.mem_flatMap.1 hm
    obtain ⟨i, hi4, hm⟩ := List.mem_flatMap.1 hm
    by_cases hd : 0 ≤ day - 2 + (i : Int) ∧ dayBit t.h.dy (day - 2 + (i : Int)) = 1
    · rw [if_pos hd] at hm
      obtain ⟨a, ha, hm⟩ := List.mem_flatMap.1 hm
      obtain ⟨s, hs, rfl⟩ := List.mem_map.1 hm
      have ha' := List.mem_range.1 ha
      have hst : t.l[a].st = w.s := by rw [← Tn.getD_at t.l a ha']; exact hf
      have hix := ok_idx (hok t ht) a ha'
      rw [hst] at hix
      refine List.mem_flatMap.2 ⟨t, ht, ?_⟩
      unfold hopsT
      rw [if_neg (by omega), hix, Int.toNat_natCast]
      refine List.mem_flatMap.2 ⟨i, hi4, ?_⟩
      unfold hopsD
      have hd2 : okDay t a (day - 2 + (i : Int)) (ahead first w) = true := by
        unfold okDay
        simp only [Bool.and_eq_true, decide_eq_true_eq]
        exact ⟨hd.1, hd.2, hy⟩
      rw [if_pos hd2]
      refine List.mem_map.2 ⟨s, hs, ?_⟩
      rw [Tn.getD_at t.l a ha', hst]
    · rw [if_neg hd] at hm; simp at hm

/-- The ends that a way can have. -/
def ends (ts : List Tr) (day : Int) : List (Int × Int) := ts.flatMap fun t => (List.range 4).flatMap fun (i : Nat) => t.l.map fun s => (s.st, 1440 * (day - 2 + (i : Int)) + s.ar)

theorem flat_le {α β : Type} (l : List α) (f : α → List β) (M : Nat) (h : ∀ x ∈ l, (f x).length ≤ M) : (l.flatMap f).length ≤ l.length * M := by
  induction l with
  | nil => simp
  | cons x l ih =>
    rw [List.flatMap_cons, List.length_append, List.length_cons, Nat.succ_mul]
    have h1 := h x List.mem_cons_self
    have h2 := ih fun y hy => h y (List.mem_cons_of_mem _ hy)
    omega

theorem ends_le {ts : List Tr} {day : Int} (hn : ts.length ≤ 40) (hs : ∀ t ∈ ts, t.l.length ≤ 20) : (ends ts day).length ≤ 3200 := by
  have h := flat_le ts (fun t => (List.range 4).flatMap fun (i : Nat) => t.l.map fun s => (s.st, 1440 * (day - 2 + (i : Int)) + s.ar)) 80 fun t ht => by
    have := flat_le (List.range 4) (fun (i : Nat) => t.l.map fun s => (s.st, 1440 * (day - 2 + (i : Int)) + s.ar)) 20 fun i hi => by rw [List.length_map]; exact hs t ht
    rw [List.length_range] at this
    omega
  unfold ends
  omega

/-- A list without doubles is no longer than one that holds all of it. -/
theorem nodup_le (l E : List (Int × Int)) (hp : l.Pairwise (· ≠ ·)) (h : ∀ x ∈ l, x ∈ E) : l.length ≤ E.length := by
  induction l generalizing E with
  | nil => simp
  | cons x l ih =>
    rw [List.pairwise_cons] at hp
    have hx := h x List.mem_cons_self
    have h1 := ih (E.erase x) hp.2 fun y hy => (List.mem_erase_of_ne (fun e => hp.1 y hy e.symm)).2 (h y (List.mem_cons_of_mem _ hy))
    rw [List.length_erase_of_mem hx] at h1
    have h2 := List.length_pos_of_mem hx
    rw [List.length_cons]
    omega

theorem uniq_pairs {ws : List Wy} (h : Uniq ws) : (ws.map fun w => (w.s, w.z)).Pairwise (· ≠ ·) := by
  unfold Uniq at h
  rw [List.pairwise_map]
  refine h.imp ?_
  intro a b hab e
  simp only [Prod.mk.injEq] at e
  exact hab e

theorem more_end {ts : List Tr} {day first : Int} {w : Wy} (hok : ∀ t ∈ ts, okB t.h t.l = true) {h : Hp} (hm : h ∈ more ts day first w) : (h.r.to, h.z) ∈ ends ts day ∧ ∃ t ∈ ts, ∃ s ∈ t.l, ∃ d, 0 ≤ d ∧ day - 2 ≤ d ∧ d ≤ day + 1 ∧ h.z = 1440 * d + s.ar := by
  have hm := (more_iff hok h).1 hm
  obtain ⟨hm, -, -⟩ := hm
  unfold allH at hm
  obtain ⟨t, ht, hm⟩ := List.mem_flatMap.1 hm
  obtain ⟨i, hi4, hm⟩ := List.mem_flatMap.1 hm
  by_cases hd : 0 ≤ day - 2 + (i : Int) ∧ dayBit t.h.dy (day - 2 + (i : Int)) = 1
  · rw [if_pos hd] at hm
    obtain ⟨a, ha, hm⟩ := List.mem_flatMap.1 hm
    obtain ⟨s, hs, rfl⟩ := List.mem_map.1 hm
    have hs2 : s ∈ t.l := List.mem_of_mem_drop hs
    have h4 := List.mem_range.1 hi4
    exact ⟨List.mem_flatMap.2 ⟨t, ht, List.mem_flatMap.2 ⟨i, hi4, List.mem_map.2 ⟨s, hs2, rfl⟩⟩⟩, t, ht, s, hs2, _, hd.1, by omega, by omega, rfl⟩
  · rw [if_neg hd] at hm; simp at hm

/-- What has come of the candidates so far, and those that are left. -/
def Got (whole rem : List Wy) (out : List Pw) : Prop := ∃ C, whole = C ++ rem ∧ out.map (·.o) = keepAll [] C

theorem Got.start (whole : List Wy) : Got whole whole [] := ⟨[], rfl, rfl⟩

theorem Got.step {whole rem : List Wy} {out : List Pw} {q : Pw} (h : Got whole (q.o :: rem) out) : Got whole rem (keepP out q) := by
  obtain ⟨C, h1, h2⟩ := h
  refine ⟨C ++ [q.o], by rw [h1, List.append_assoc]; rfl, ?_⟩
  rw [keepP_o, h2]
  unfold keepAll
  rw [List.foldl_append]
  rfl

theorem Got.mem {whole rem : List Wy} {out : List Pw} (h : Got whole rem out) {p : Pw} (hp : p ∈ out) : p.o ∈ whole := by
  obtain ⟨C, h1, h2⟩ := h
  have h3 : p.o ∈ keepAll [] C := by rw [← h2]; exact List.mem_map.2 ⟨p, hp, rfl⟩
  rcases keepAll_mem h3 with h3 | h3
  · cases h3
  · rw [h1]; exact List.mem_append_left _ h3

theorem Got.head {whole rem : List Wy} {c : Wy} {out : List Pw} (h : Got whole (c :: rem) out) : c ∈ whole := by
  obtain ⟨C, h1, h2⟩ := h
  rw [h1]
  exact List.mem_append_right _ List.mem_cons_self

theorem Got.uniq {whole rem : List Wy} {out : List Pw} (h : Got whole rem out) : Uniq (out.map (·.o)) := by
  obtain ⟨C, h1, h2⟩ := h
  rw [h2]
  exact keepAll_uniq List.Pairwise.nil C

theorem Got.len {whole rem : List Wy} {out : List Pw} {E : List (Int × Int)} (h : Got whole rem out) (hE : ∀ c ∈ whole, (c.s, c.z) ∈ E) : out.length ≤ E.length := by
  have := nodup_le ((out.map (·.o)).map fun w => (w.s, w.z)) E (uniq_pairs h.uniq) fun x hx => by
    obtain ⟨c, hc, rfl⟩ := List.mem_map.1 hx
    obtain ⟨p, hp, rfl⟩ := List.mem_map.1 hc
    exact hE _ (h.mem hp)
  simpa using this

end Rd
end Go.Proofs.Ytfoccmhmgdengaa
