/- The program goes on from a way. -/
import Derived.Test.YtmhongcbgokiladTfOffer
import Derived.Test.YtmhongcbgokiladTfLeast
namespace Go.Proofs.Ytmhongcbgokilad
namespace Tf
open Go.ChangeShapes Go.WideShapes Go.ChangeAt Go.RowKit
open Pk (new_below join_below cell_at heap_new frozen_at lt_of kept heap_old Drawn info_of)
set_option linter.unusedSimpArgs false
set_option linter.unusedVariables false
variable {bs : Nat}

/-- All but two blocks is kept. -/
structure Tw (b c : Nat) (w w' : World) : Prop where
  os : w'.os = w.os
  tape : w'.tape = w.tape
  output : w'.output = w.output
  size : w.heap.size ≤ w'.heap.size
  block : ∀ k, k < w.heap.size → k ≠ b → k ≠ c → w'.heap[k]? = w.heap[k]?

theorem Tw.refl (b c : Nat) (w : World) : Tw b c w w := ⟨rfl, rfl, rfl, Nat.le_refl _, fun _ _ _ _ => rfl⟩
theorem Tw.of_below {b c : Nat} {w w' : World} (L : Below w.heap.size w w') : Tw b c w w' := ⟨L.os, L.tape, L.output, L.size, fun k hk _ _ => L.block k hk⟩
theorem Tw.of_grown1 {b c : Nat} {w w' : World} (L : w.grownBy w' (some b)) : Tw b c w w' := ⟨L.os, L.tape, L.output, L.size, fun k hk h _ => L.block k hk (by simpa using h)⟩
theorem Tw.of_grown2 {b c : Nat} {w w' : World} (L : w.grownBy w' (some c)) : Tw b c w w' := ⟨L.os, L.tape, L.output, L.size, fun k hk _ h => L.block k hk (by simpa using h)⟩
theorem Tw.trans {b c : Nat} {w w1 w2 : World} (h : Tw b c w w1) (k : Tw b c w1 w2) : Tw b c w w2 :=
  ⟨k.os.trans h.os, k.tape.trans h.tape, k.output.trans h.output, Nat.le_trans h.size k.size, fun i hi h1 h2 => (k.block i (Nat.lt_of_lt_of_le hi h.size) h1 h2).trans (h.block i hi h1 h2)⟩
theorem Tw.drew {b c : Nat} {w w1 : World} (h : Tw b c w w1) : Tw b c w w1.drew := h.trans (Tw.of_below (Below.refl _ _).drew)
theorem Tw.alloc {b c : Nat} {w w1 : World} (h : Tw b c w w1) (o : Obj) : Tw b c w (w1.alloc o) := h.trans (Tw.of_below (new_below _ _))
theorem Tw.below {b c B : Nat} {w w' : World} (h : Tw b c w w') (hb : B ≤ b) (hc : B ≤ c) (hB : B ≤ w.heap.size) : Below B w w' := ⟨h.os, h.tape, h.output, h.size, fun k hk => h.block k (by omega) (by omega) (by omega)⟩
theorem Tw.kept {b c i : Nat} {w w' : World} {x : Obj} (h : Tw b c w w') (hb : i ≠ b) (hc : i ≠ c) (m : w.heap[i]? = some x) : w'.heap[i]? = some x := (h.block i (lt_of m) hb hc).trans m

theorem Wv.tw {b c : Nat} {w w' : World} {v : Value} {o : Wy} (h : Wv bs w v o) (hb : ∃ es n, w.heap[b]? = some (.map es n)) (hc : ∃ es n, w.heap[c]? = some (.map es n)) (L : Tw b c w w') : Wv bs w' v o := by
  obtain ⟨g, cap, rfl, hlt, hn, hcell⟩ := h
  have hne : ∀ d, (∃ es n, w.heap[d]? = some (.map es n)) → g ≠ d := by
    rintro d ⟨es, n, hd⟩ e
    subst e
    have := hcell 0 hn
    unfold World.cell? at this
    rw [hd] at this
    simp at this
  refine ⟨g, cap, rfl, hlt.of_block L.size (L.block g hlt.2.1 (hne b hb) (hne c hc)), hn, fun i hi => ?_⟩
  rw [World.cell?_of_block (a := ⟨g, i, none⟩) (L.block g hlt.2.1 (hne b hb) (hne c hc))]
  exact hcell i hi

/-- One edge more, where it leads on. -/
def stepF (G : Int → Option Wy) (o : Wy) (F : Int → Option Wy) (e : Ed) : Int → Option Wy := if hasS e (endW o) = true then offF G F (ovr o e.co (oth e (endW o))) else F
def goF (G : Int → Option Wy) (o : Wy) (F : Int → Option Wy) (E : List Ed) : Int → Option Wy := E.foldl (stepF G o) F

theorem goF_take (G : Int → Option Wy) (o : Wy) (F : Int → Option Wy) (E : List Ed) (k : Nat) (hk : k < E.length) : goF G o F (E.take (k + 1)) = stepF G o (goF G o F (E.take k)) E[k] := by
  unfold goF
  rw [List.take_add_one, List.getElem?_eq_getElem hk, List.foldl_append]
  rfl

theorem off_mem {G F : Int → Option Wy} {o q : Wy} {k : Int} (h : offF G F o k = some q) : F k = some q ∨ q = o := by
  have hs : setF F (endW o) (some o) k = some q → F k = some q ∨ q = o := by
    unfold setF
    split
    · intro e; cases e; exact Or.inr rfl
    · intro e; exact Or.inl e
  cases hg : (G (endW o)).isSome
  · cases hF : F (endW o) with
    | none => rw [off_none hg hF] at h; exact hs h
    | some b =>
      cases ha : ahead o b
      · rw [off_no hg hF ha] at h; exact Or.inl h
      · rw [off_yes hg hF ha] at h; exact hs h
  · rw [off_gone hg] at h
    exact Or.inl h

theorem goF_len (G : Int → Option Wy) (o : Wy) (B : Nat) (hB : o.s.length + 1 ≤ B) : ∀ (E : List Ed) (F : Int → Option Wy), (∀ k p, F k = some p → p.s.length ≤ B) → ∀ k p, goF G o F E k = some p → p.s.length ≤ B
  | [], _, h, k, p, hp => h k p hp
  | e :: r, F, h, k, p, hp => by
    refine goF_len G o B hB r (stepF G o F e) (fun j q hq => ?_) k p hp
    unfold stepF at hq
    split at hq
    · rcases off_mem hq with h1 | h1
      · exact h j q h1
      · subst h1
        simp [ovr]
        exact hB
    · exact h j q hq

theorem oth_ok {e : Ed} {s : Int} (h : edB e = true) (hs : hasS e s = true) : 1 ≤ oth e s ∧ oth e s ≤ 9999 := by
  have := ed_is h
  unfold hasS at hs
  unfold oth
  by_cases h1 : e.ea = s
  · rw [if_pos h1]; omega
  · by_cases h2 : e.eb = s
    · rw [if_neg h1, if_pos h2]; omega
    · simp [h1, h2] at hs

set_option maxHeartbeats 4000000 in
set_option maxRecDepth 100000 in
theorem goOn_val (ea : Option Addr) (E : List Ed) (ce bo bg fn gn : Nat) (F G : Int → Option Wy) (v : Value) (o : Wy) (w0 w : World) (IE : Edges w0 ea E) (L0 : Below w0.heap.size w0 w) (hb0 : w0.heap.size ≤ bo) (hg0 : w0.heap.size ≤ bg) (hEl : E.length ≤ 200) (hE : ∀ e ∈ E, edB e = true)
    (I : Opn bs w bo fn F) (J : Gn w bg gn G) (hne : bo ≠ bg) (V : Wv bs w v o) (hy : 1 ≤ endW o ∧ endW o ≤ 9999)
    (hl : o.s.length ≤ 100000) (hc0 : 0 ≤ o.c) (hc1 : o.c ≤ 1000000000000) (hF : ∀ k p, F k = some p → p.s.length ≤ 1048576) (hfn : fn < 100000000) (hgn : gn < 100000000) (hbs : bs ≤ w.heap.size) :
    Calls Try.prog 107 #[.agg #[.slice ea E.length ce, .map (some bo), .map (some bg)], v] w fun e w' => e = .returned (.tuple #[]) ∧ Opn bs w' bo (fn + E.length) (goF (setG G (endW o) o) o F E) ∧ Gn w' bg (gn + 1) (setG G (endW o) o) ∧ Tw bo bg w w' := by
  have mbo := I.isMap
  have mbg := J.isMap
  have HV : Hid (∀ w', Tw bo bg w w' → Wv bs w' v o) := fun w' L => V.tw mbo mbg L
  obtain ⟨g, cap, rfl, hg, hnp, hcell⟩ := V
  have N1 := new_below w (.cells #[.slice ea E.length ce, .map (some bo), .map (some bg)] 141)
  have m1 := heap_new w (.cells #[.slice ea E.length ce, .map (some bo), .map (some bg)] 141)
  have e1 : (w.alloc (.cells #[.slice ea E.length ce, .map (some bo), .map (some bg)] 141)).heap.size = w.heap.size + 1 := Array.size_push ..
  generalize hW1 : w.alloc (.cells #[.slice ea E.length ce, .map (some bo), .map (some bg)] 141) = W1 at *
  have N2 := new_below W1 (.cells #[.int .i64 o.c, .slice (some ⟨g, 0, none⟩) o.s.length cap] 103)
  have m2 := heap_new W1 (.cells #[.int .i64 o.c, .slice (some ⟨g, 0, none⟩) o.s.length cap] 103)
  generalize hW2 : W1.alloc (.cells #[.int .i64 o.c, .slice (some ⟨g, 0, none⟩) o.s.length cap] 103) = W at *
  have m1' := kept N2 (lt_of m1) m1
  rw [e1] at m2
  have N := join_below N1 N2
  rw [← hW1] at hW2
  have lbo := I.lt
  have lbg := J.lt
  have TN : Tw bo bg w W := Tw.of_below N
  have HEnd : Hid (∀ w', Tw bo bg W w' → _) := fun w' L => end_val _ o w' (by omega) (HV.out w' (TN.trans L))
  have HS : Hid (∀ w', Tw bo bg W w' → w'.cell? ⟨w.heap.size, 0, none⟩ = some (.slice ea E.length ce) ∧ w'.cell? ⟨w.heap.size, 1, none⟩ = some (.map (some bo)) ∧ w'.cell? ⟨w.heap.size, 2, none⟩ = some (.map (some bg)) ∧ w'.cell? ⟨w.heap.size + 1, 0, none⟩ = some (.int .i64 o.c) ∧ w'.cell? ⟨w.heap.size + 1, 1, none⟩ = some (.slice (some ⟨g, 0, none⟩) o.s.length cap)) := fun w' L =>
    ⟨cell_at (L.kept (by omega) (by omega) m1') 0, cell_at (L.kept (by omega) (by omega) m1') 1, cell_at (L.kept (by omega) (by omega) m1') 2, cell_at (L.kept (by omega) (by omega) m2) 0, cell_at (L.kept (by omega) (by omega) m2) 1⟩
  have HS0 := HS.out W (Tw.refl _ _ _)
  have HIE : Hid (∀ w', Tw bo bg w w' → Edges w' ea E) := fun w' L => IE.on (L0.trans (L.below hb0 hg0 L0.size))
  have OW := I.on N
  have JW := J.on N
  have hyw := kk_wf hy
  have HBG : Hid (bg < W.heap.size ∧ bo < W.heap.size ∧ w.heap.size + 1 < W.heap.size) := ⟨JW.lt, OW.lt, lt_of m2⟩
  have HOV : Hid (∀ (p : Ed) (x : Int) (w' : World), edB p = true → Tw bo bg W w' → _) := fun p x w' hp L => over_val _ o p x w' (by omega) hc0 hc1 (ed_is hp).2.2.2.2.2.1 (ed_is hp).2.2.2.2.2.2 (Nat.le_trans hbs (Nat.le_trans TN.size L.size)) (HV.out w' (TN.trans L))
  clear m1 m2 m1' N1 N2 e1 hcell hW1 hg hnp mbo mbg IE L0 hb0 hg0 I J
  obtain ⟨n, hn⟩ : ∃ n, o.s.length = n := ⟨_, rfl⟩
  obtain ⟨c, hc⟩ : ∃ c, o.c = c := ⟨_, rfl⟩
  obtain ⟨y, hyy⟩ : ∃ y, endW o = y := ⟨_, rfl⟩
  rw [hn, hc] at HS HS0 HV HEnd hW2 HOV
  rw [hn, hc]
  rw [hyy] at HEnd hyw hy
  rw [hyy]
  have HY : Hid (endW o = y) := hyy
  have HN : Hid (o.s.length ≤ 100000) := hl
  have HE : Hid (∀ e ∈ E, edB e = true) := hE
  have HF0 : Hid (∀ E', ∀ k p, goF (setG G y o) o F E' k = some p → p.s.length ≤ 1048576) := fun E' => goF_len _ o 1048576 (by omega) E' F hF
  clear hn hc hyy hl hE hF hc0 hc1
  obtain ⟨s0, s1, s2, s3, s4⟩ := HS0
  go_enter Try.func107, Try.ntmps107
  go_wp2
  clear hW2
  refine wp_region_held_drew (S := (fun w' => w'.cell? ⟨w.heap.size, 0, none⟩ = some (.slice ea E.length ce) ∧ w'.cell? ⟨w.heap.size, 1, none⟩ = some (.map (some bo)) ∧ w'.cell? ⟨w.heap.size, 2, none⟩ = some (.map (some bg)) ∧ w'.cell? ⟨w.heap.size + 1, 0, none⟩ = some (.int .i64 c) ∧ w'.cell? ⟨w.heap.size + 1, 1, none⟩ = some (.slice (some ⟨g, 0, none⟩) n cap))) (by kernel_rfl) ?_ (fun hHeld => ?_)
  · exact HS.out _ (Tw.refl bo bg W).drew
  refine wpAnyH_take (i := 0) (v := .pointer (some ⟨w.heap.size, 2, none⟩)) rfl (by kernel_rfl) (by kernel_rfl) (by kernel_rfl) (fun _ _ _ h => h) (Or.inl ⟨by kernel_rfl, fun w hSw => by first | (go_simp; done) | (dsimp only at hSw; obtain ⟨hS0, hS1, hS2, hS3, hS4⟩ := hSw; go_simp; done) | rfl⟩) (by assumption) ?_
  simp only [Act.put, List.getElem_toArray, List.getElem_cons_succ, List.getElem_cons_zero, List.setIfInBounds_toArray, List.set_cons_succ, List.set_cons_zero]
  refine wpAnyH_take (i := 1) (v := .map (some bg)) rfl (by kernel_rfl) (by kernel_rfl) (by kernel_rfl) (fun _ _ _ h => h) (Or.inl ⟨by kernel_rfl, fun w hSw => by first | (go_simp; done) | (dsimp only at hSw; obtain ⟨hS0, hS1, hS2, hS3, hS4⟩ := hSw; go_simp; done) | rfl⟩) (by assumption) ?_
  simp only [Act.put, List.getElem_toArray, List.getElem_cons_succ, List.getElem_cons_zero, List.setIfInBounds_toArray, List.set_cons_succ, List.set_cons_zero]
  refine wpAnyH_take (i := 2) (v := .agg #[.int .i64 c, .slice (some ⟨g, 0, none⟩) n cap]) rfl (by kernel_rfl) (by kernel_rfl) (by kernel_rfl) (fun _ _ _ h => h) (Or.inl ⟨by kernel_rfl, fun w hSw => by first | (go_simp; done) | (dsimp only at hSw; obtain ⟨hS0, hS1, hS2, hS3, hS4⟩ := hSw; go_simp; done) | rfl⟩) (by assumption) ?_
  simp only [Act.put, List.getElem_toArray, List.getElem_cons_succ, List.getElem_cons_zero, List.setIfInBounds_toArray, List.set_cons_succ, List.set_cons_zero]
  refine wpAnyH_take (i := 4) (v := .pointer (some ⟨w.heap.size + 1, 0, none⟩)) rfl (by kernel_rfl) (by kernel_rfl) (by kernel_rfl) (fun _ _ _ h => h) (Or.inl ⟨by kernel_rfl, fun w hSw => by first | (go_simp; done) | (dsimp only at hSw; obtain ⟨hS0, hS1, hS2, hS3, hS4⟩ := hSw; go_simp; done) | rfl⟩) (by assumption) ?_
  simp only [Act.put, List.getElem_toArray, List.getElem_cons_succ, List.getElem_cons_zero, List.setIfInBounds_toArray, List.set_cons_succ, List.set_cons_zero]
  refine wpAnyH_take (i := 5) (v := .int .i64 c) rfl (by kernel_rfl) (by kernel_rfl) (by kernel_rfl) (fun _ _ _ h => h) (Or.inl ⟨by kernel_rfl, fun w hSw => by first | (go_simp; done) | (dsimp only at hSw; obtain ⟨hS0, hS1, hS2, hS3, hS4⟩ := hSw; go_simp; done) | rfl⟩) (by assumption) ?_
  simp only [Act.put, List.getElem_toArray, List.getElem_cons_succ, List.getElem_cons_zero, List.setIfInBounds_toArray, List.set_cons_succ, List.set_cons_zero]
  refine wpAnyH_ready (rs := [3]) (by kernel_rfl) (by simp) ?_
  refine AllReadyH.cons rfl (fun K hK => ?_) AllReadyH.nil
  go_simp
  go_wp2_with (go_at_call 106; refine (HEnd.out _ ?_).mono ?_; (exact (Tw.refl bo bg W).drew); rintro e w1 ⟨rfl, Lw1⟩; have Kw1 : Tw bo bg W w1 := (Tw.refl bo bg W).drew.trans (Tw.of_below Lw1))
  refine hK.out _ _ ?_ (fun hHeld2 => ?_)
  · first | exact hHeld | exact HS.out _ Kw1 | exact HS.out _ K2
  clear hK K hHeld
  have hHeld := hHeld2
  clear hHeld2
  refine wpAnyH_ready (rs := [6]) (by kernel_rfl) (by simp) ?_
  refine AllReadyH.cons rfl (fun K hK => ?_) AllReadyH.nil
  rw [if_pos (by kernel_rfl)]
  refine wp_store_gone _ _ _ rfl bg gn G rfl (JW.on (((Below.refl _ _).drew).trans Lw1)) (by unfold maxLen; omega) y hyw rfl _ rfl o ?_
  intro w2 J2 G2
  have K2 : Tw bo bg W w2 := Kw1.trans (Tw.of_grown2 G2)
  try simp only [Act.put, List.getElem_toArray, List.getElem_cons_succ, List.getElem_cons_zero, List.setIfInBounds_toArray, List.set_cons_succ, List.set_cons_zero]
  refine hK.out _ _ ?_ (fun hHeld2 => ?_)
  · first | exact hHeld | exact HS.out _ Kw1 | exact HS.out _ K2
  clear hK K hHeld
  have hHeld := hHeld2
  clear hHeld2
  refine wpAnyH_done (by kernel_rfl) ?_ _
  clear hHeld s0 s1 s2 s3 s4
  obtain ⟨s0, s1, s2, s3, s4⟩ := HS.out _ K2
  have O2 : Opn bs w2 bo (fn + 0) (goF (setG G y o) o F (E.take 0)) := by
    rw [List.take_zero]
    exact (OW.on (((Below.refl _ _).drew).trans Lw1)).off (JW.on (((Below.refl _ _).drew).trans Lw1)).isMap G2 hne
  clear OW JW G2 Lw1 Kw1
  go_wp2
  go_loopw [17] (fun i wr => ∃ k : Nat, k ≤ E.length ∧ i = .int .i64 k ∧ Tw bo bg W wr ∧ Hid (Opn bs wr bo (fn + k) (goF (setG G y o) o F (E.take k))) ∧ Hid (Gn wr bg (gn + 1) (setG G y o))) (fun i _ => E.length - (intOf i).toNat)
  case atStart => exact ⟨0, by omega, rfl, K2, O2, J2⟩
  case round =>
    obtain ⟨k, hk, rfl, KR, OR, JR⟩ := hrel
    clear s0 s1 s2 s3 s4 O2 J2 K2
    by_cases hkn : k < E.length
    · obtain ⟨b, u, hab, hlt, c0, c1, c2⟩ := (HIE.out wr (TN.trans KR)).at k hkn
      subst hab
      have HT : Hid (_) := goF_take (setG G y o) o F E k hkn
      have hpE := HE.out E[k] (List.getElem_mem hkn)
      have HFK : Hid (_) := HF0.out (E.take k)
      generalize E[k] = p at *
      have NX := new_below wr (edO p 115)
      have mX := heap_new wr (edO p 115)
      generalize hX : wr.alloc (edO p 115) = X at *
      have KX : Tw bo bg W X := KR.trans (Tw.of_below NX)
      have hrX := KR.size
      have HX5 : Hid (∀ w', Below X.heap.size X w' → (w'.cell? ⟨w.heap.size, 0, none⟩ = some (.slice (some ⟨b, u, none⟩) E.length ce) ∧ w'.cell? ⟨w.heap.size, 1, none⟩ = some (.map (some bo)) ∧ w'.cell? ⟨w.heap.size, 2, none⟩ = some (.map (some bg)) ∧ w'.cell? ⟨w.heap.size + 1, 0, none⟩ = some (.int .i64 c) ∧ w'.cell? ⟨w.heap.size + 1, 1, none⟩ = some (.slice (some ⟨g, 0, none⟩) n cap)) ∧ w'.cell? ⟨wr.heap.size, 0, none⟩ = some (.int .i64 p.ea) ∧ w'.cell? ⟨wr.heap.size, 1, none⟩ = some (.int .i64 p.eb) ∧ w'.cell? ⟨wr.heap.size, 2, none⟩ = some (.int .i64 p.co)) := fun w' L =>
        ⟨HS.out w' (KX.trans (Tw.of_below L)), cell_at (kept L (lt_of mX) mX) 0, cell_at (kept L (lt_of mX) mX) 1, cell_at (kept L (lt_of mX) mX) 2⟩
      have HXG : Hid (∀ w' w'', Below X.heap.size X w' → w'.grownBy w'' (some bo) → w''.cell? ⟨wr.heap.size, 0, none⟩ = some (.int .i64 p.ea) ∧ w''.cell? ⟨wr.heap.size, 1, none⟩ = some (.int .i64 p.eb) ∧ w''.cell? ⟨wr.heap.size, 2, none⟩ = some (.int .i64 p.co)) := fun w' w'' L hg => by
        have hm := kept L (lt_of mX) mX
        have hb := HBG.out
        have hm2 := (hg.block _ (lt_of hm) (by simp; omega)).trans hm
        exact ⟨cell_at hm2 0, cell_at hm2 1, cell_at hm2 2⟩
      have HFr : Hid (∀ w, _) := fun w => from_val p y w
      have OX := OR.out.on NX
      have JX := JR.out.on NX
      have hq1 : ∀ h : hasS p y = true, _ := fun h => oth_ok hpE h
      have HST : Hid (goF (setG G y o) o F (E.take (k + 1)) = if hasS p y = true then offF (setG G y o) (goF (setG G y o) o F (E.take k)) (ovr o p.co (oth p y)) else goF (setG G y o) o F (E.take k)) := by
        show _ = _
        rw [HT.out, stepF, HY.out]
      clear HT OR JR mX
      generalize goF (setG G y o) o F (E.take k) = FK at *
      generalize oth p y = q at *
      generalize hasS p y = hB at *
      have hx5 := HX5.out X (Below.refl _ _)
      obtain ⟨⟨s0, s1, s2, s3, s4⟩, r0, r1, r2⟩ := hx5
      go_wp2
      clear hX
      refine wp_region_held_drew (S := (fun w' => (w'.cell? ⟨w.heap.size, 0, none⟩ = some (.slice (some ⟨b, u, none⟩) E.length ce) ∧ w'.cell? ⟨w.heap.size, 1, none⟩ = some (.map (some bo)) ∧ w'.cell? ⟨w.heap.size, 2, none⟩ = some (.map (some bg)) ∧ w'.cell? ⟨w.heap.size + 1, 0, none⟩ = some (.int .i64 c) ∧ w'.cell? ⟨w.heap.size + 1, 1, none⟩ = some (.slice (some ⟨g, 0, none⟩) n cap)) ∧ w'.cell? ⟨wr.heap.size, 0, none⟩ = some (.int .i64 p.ea) ∧ w'.cell? ⟨wr.heap.size, 1, none⟩ = some (.int .i64 p.eb) ∧ w'.cell? ⟨wr.heap.size, 2, none⟩ = some (.int .i64 p.co))) (by kernel_rfl) ?_ (fun hHeld => ?_)
      · exact HX5.out _ (Below.refl _ _).drew
      refine wpAnyH_take (i := 0) (v := .agg #[.int .i64 p.ea, .int .i64 p.eb, .int .i64 p.co]) rfl (by kernel_rfl) (by kernel_rfl) (by kernel_rfl) (fun _ _ _ h => h) (Or.inl ⟨by kernel_rfl, fun w hSw => by first | (go_simp; done) | (dsimp only at hSw; obtain ⟨hS0, hS1, hS2, hS3, hS4, hS5, hS6, hS7⟩ := hSw; go_simp; done) | rfl⟩) (by assumption) ?_
      simp only [Act.put, List.getElem_toArray, List.getElem_cons_succ, List.getElem_cons_zero, List.setIfInBounds_toArray, List.set_cons_succ, List.set_cons_zero]
      refine wpAnyH_take (i := 1) (v := .agg #[.int .i64 c, .slice (some ⟨g, 0, none⟩) n cap]) rfl (by kernel_rfl) (by kernel_rfl) (by kernel_rfl) (fun _ _ _ h => h) (Or.inl ⟨by kernel_rfl, fun w hSw => by first | (go_simp; done) | (dsimp only at hSw; obtain ⟨hS0, hS1, hS2, hS3, hS4, hS5, hS6, hS7⟩ := hSw; go_simp; done) | rfl⟩) (by assumption) ?_
      simp only [Act.put, List.getElem_toArray, List.getElem_cons_succ, List.getElem_cons_zero, List.setIfInBounds_toArray, List.set_cons_succ, List.set_cons_zero]
      refine wpAnyH_ready (rs := [2]) (by kernel_rfl) (by simp) ?_
      refine AllReadyH.cons rfl (fun K hK => ?_) AllReadyH.nil
      go_simp
      go_wp2_with (go_at_call 106; refine (HEnd.out _ ?_).mono ?_; (exact KX.drew); rintro e w1 ⟨rfl, L1⟩; have M1 : Below X.heap.size X w1 := ((Below.refl _ _).drew).trans L1)
      refine hK.out _ _ ?_ (fun hHeld2 => ?_)
      · first | exact hHeld | exact HX5.out _ M2 | exact HX5.out _ M1
      clear hK K hHeld
      have hHeld := hHeld2
      clear hHeld2
      refine wpAnyH_ready (rs := [3]) (by kernel_rfl) (by simp) ?_
      refine AllReadyH.cons rfl (fun K hK => ?_) AllReadyH.nil
      go_simp
      go_wp2_with (go_at_call 97; refine (HFr.out _).mono ?_; rintro e w2 ⟨rfl, L2⟩; have M2 : Below X.heap.size X w2 := join_below M1 L2)
      refine hK.out _ _ ?_ (fun hHeld2 => ?_)
      · first | exact hHeld | exact HX5.out _ M2 | exact HX5.out _ M1
      clear hK K hHeld
      have hHeld := hHeld2
      clear hHeld2
      refine wpAnyH_take (i := 4) (v := .tuple #[.int .i64 q, .bool hB]) rfl (by kernel_rfl) (by kernel_rfl) (by kernel_rfl) (fun _ _ _ h => h) (Or.inl ⟨by kernel_rfl, fun w hSw => by first | (go_simp; done) | (dsimp only at hSw; obtain ⟨hS0, hS1, hS2, hS3, hS4, hS5, hS6, hS7⟩ := hSw; go_simp; done) | rfl⟩) (by assumption) ?_
      simp only [Act.put, List.getElem_toArray, List.getElem_cons_succ, List.getElem_cons_zero, List.setIfInBounds_toArray, List.set_cons_succ, List.set_cons_zero]
      refine wpAnyH_take (i := 5) (v := .int .i64 q) rfl (by kernel_rfl) (by kernel_rfl) (by kernel_rfl) (fun _ _ _ h => h) (Or.inl ⟨by kernel_rfl, fun w hSw => by first | (go_simp; done) | (dsimp only at hSw; obtain ⟨hS0, hS1, hS2, hS3, hS4, hS5, hS6, hS7⟩ := hSw; go_simp; done) | rfl⟩) (by assumption) ?_
      simp only [Act.put, List.getElem_toArray, List.getElem_cons_succ, List.getElem_cons_zero, List.setIfInBounds_toArray, List.set_cons_succ, List.set_cons_zero]
      refine wpAnyH_take (i := 6) (v := .bool hB) rfl (by kernel_rfl) (by kernel_rfl) (by kernel_rfl) (fun _ _ _ h => h) (Or.inl ⟨by kernel_rfl, fun w hSw => by first | (go_simp; done) | (dsimp only at hSw; obtain ⟨hS0, hS1, hS2, hS3, hS4, hS5, hS6, hS7⟩ := hSw; go_simp; done) | rfl⟩) (by assumption) ?_
      simp only [Act.put, List.getElem_toArray, List.getElem_cons_succ, List.getElem_cons_zero, List.setIfInBounds_toArray, List.set_cons_succ, List.set_cons_zero]
      refine wpAnyH_ready (rs := [7]) (by kernel_rfl) (by simp) ?_
      refine AllReadyH.cons rfl (fun K hK => ?_) AllReadyH.nil
      go_simp
      refine hK.out _ _ ?_ (fun hHeld2 => ?_)
      · first | exact hHeld | exact HX5.out _ M2 | exact HX5.out _ M1
      clear hK K hHeld
      have hHeld := hHeld2
      clear hHeld2
      refine wpAnyH_ready (rs := [8]) (by kernel_rfl) (by simp) ?_
      refine AllReadyH.cons rfl (fun K hK => ?_) AllReadyH.nil
      go_simp
      refine hK.out _ _ ?_ (fun hHeld2 => ?_)
      · first | exact hHeld | exact HX5.out _ M2 | exact HX5.out _ M1
      clear hK K hHeld
      have hHeld := hHeld2
      clear hHeld2
      refine wpAnyH_done (by kernel_rfl) ?_ _
      clear hHeld s0 s1 s2 s3 s4 r0 r1 r2
      obtain ⟨⟨s0, s1, s2, s3, s4⟩, r0, r1, r2⟩ := HX5.out _ M2
      have K2 : Tw bo bg W w2 := KX.trans (Tw.of_below M2)
      cases hB
      case false =>
        have HR : Hid (goF (setG G y o) o F (E.take (k + 1)) = FK) := HST.out.trans (if_neg (by simp))
        have O3 : Hid (Opn bs w2 bo (fn + (k + 1)) (goF (setG G y o) o F (E.take (k + 1)))) := by
          rw [HR.out]
          obtain ⟨D, h1, h2⟩ := OX.on M2
          exact ⟨D, h1.mono (by omega), h2⟩
        have J3 : Hid (_) := JX.on M2
        go_wp2
        go_roundw
        case rel => exact ⟨k + 1, by omega, by go_num, K2, O3, J3⟩
        case measure => simp [intOf]; omega
      case true =>
        have hqE := hq1 rfl
        have HR : Hid (goF (setG G y o) o F (E.take (k + 1)) = offF (setG G y o) FK (ovr o p.co q)) := HST.out.trans (if_pos rfl)
        go_wp2
        refine wp_region_held_drew (S := (fun w' => (w'.cell? ⟨w.heap.size, 0, none⟩ = some (.slice (some ⟨b, u, none⟩) E.length ce) ∧ w'.cell? ⟨w.heap.size, 1, none⟩ = some (.map (some bo)) ∧ w'.cell? ⟨w.heap.size, 2, none⟩ = some (.map (some bg)) ∧ w'.cell? ⟨w.heap.size + 1, 0, none⟩ = some (.int .i64 c) ∧ w'.cell? ⟨w.heap.size + 1, 1, none⟩ = some (.slice (some ⟨g, 0, none⟩) n cap)) ∧ w'.cell? ⟨wr.heap.size, 0, none⟩ = some (.int .i64 p.ea) ∧ w'.cell? ⟨wr.heap.size, 1, none⟩ = some (.int .i64 p.eb) ∧ w'.cell? ⟨wr.heap.size, 2, none⟩ = some (.int .i64 p.co))) (by kernel_rfl) ?_ (fun hHeld => ?_)
        · exact HX5.out _ M2.drew
        refine wpAnyH_take (i := 0) (v := .agg #[.slice (some ⟨b, u, none⟩) E.length ce, .map (some bo), .map (some bg)]) rfl (by kernel_rfl) (by kernel_rfl) (by kernel_rfl) (fun _ _ _ h => h) (Or.inl ⟨by kernel_rfl, fun w hSw => by first | (go_simp; done) | (dsimp only at hSw; obtain ⟨hS0, hS1, hS2, hS3, hS4, hS5, hS6, hS7⟩ := hSw; go_simp; done) | rfl⟩) (by assumption) ?_
        simp only [Act.put, List.getElem_toArray, List.getElem_cons_succ, List.getElem_cons_zero, List.setIfInBounds_toArray, List.set_cons_succ, List.set_cons_zero]
        refine wpAnyH_take (i := 1) (v := .agg #[.int .i64 c, .slice (some ⟨g, 0, none⟩) n cap]) rfl (by kernel_rfl) (by kernel_rfl) (by kernel_rfl) (fun _ _ _ h => h) (Or.inl ⟨by kernel_rfl, fun w hSw => by first | (go_simp; done) | (dsimp only at hSw; obtain ⟨hS0, hS1, hS2, hS3, hS4, hS5, hS6, hS7⟩ := hSw; go_simp; done) | rfl⟩) (by assumption) ?_
        simp only [Act.put, List.getElem_toArray, List.getElem_cons_succ, List.getElem_cons_zero, List.setIfInBounds_toArray, List.set_cons_succ, List.set_cons_zero]
        refine wpAnyH_take (i := 2) (v := .agg #[.int .i64 p.ea, .int .i64 p.eb, .int .i64 p.co]) rfl (by kernel_rfl) (by kernel_rfl) (by kernel_rfl) (fun _ _ _ h => h) (Or.inl ⟨by kernel_rfl, fun w hSw => by first | (go_simp; done) | (dsimp only at hSw; obtain ⟨hS0, hS1, hS2, hS3, hS4, hS5, hS6, hS7⟩ := hSw; go_simp; done) | rfl⟩) (by assumption) ?_
        simp only [Act.put, List.getElem_toArray, List.getElem_cons_succ, List.getElem_cons_zero, List.setIfInBounds_toArray, List.set_cons_succ, List.set_cons_zero]
        refine wpAnyH_take (i := 3) (v := .int .i64 q) rfl (by kernel_rfl) (by kernel_rfl) (by kernel_rfl) (fun _ _ _ h => h) (Or.inl ⟨by kernel_rfl, fun w hSw => by first | (go_simp; done) | (dsimp only at hSw; obtain ⟨hS0, hS1, hS2, hS3, hS4, hS5, hS6, hS7⟩ := hSw; go_simp; done) | rfl⟩) (by assumption) ?_
        simp only [Act.put, List.getElem_toArray, List.getElem_cons_succ, List.getElem_cons_zero, List.setIfInBounds_toArray, List.set_cons_succ, List.set_cons_zero]
        refine wpAnyH_ready (rs := [4]) (by kernel_rfl) (by simp) ?_
        refine AllReadyH.cons rfl (fun K hK => ?_) AllReadyH.nil
        go_simp
        go_wp2_with (go_at_call 112; refine (HOV.out p q _ hpE ?_).mono ?_; (exact (KX.trans (Tw.of_below M2)).drew); rintro e w4 ⟨v4, rfl, L4, V4⟩; have M4 : Below X.heap.size X w4 := join_below M2 (((Below.refl _ _).drew).trans L4))
        refine hK.out _ _ ?_ (fun hHeld2 => ?_)
        · first | exact hHeld | exact HX5.out _ M4 | exact ⟨HS.out _ K5, HXG.out _ _ M4 G5⟩
        clear hK K hHeld
        have hHeld := hHeld2
        clear hHeld2
        refine wpAnyH_ready (rs := [5]) (by kernel_rfl) (by simp) ?_
        refine AllReadyH.cons rfl (fun K hK => ?_) AllReadyH.nil
        go_simp
        go_wp2_with (go_at_call 111; refine (offer_val (some ⟨b, u, none⟩) E.length ce bo bg (fn + k) (gn + 1) FK (setG G y o) v4 (ovr o p.co q) w4 (OX.on M4) (JX.on M4) hne V4 (by rw [end_ovr]; exact hqE) (by simp [ovr]; have := HN.out; omega) HFK.out (by omega)).mono ?_; rintro e w5 ⟨rfl, O5, J5, G5⟩; have K5 : Tw bo bg W w5 := (KX.trans (Tw.of_below M4)).trans (Tw.of_grown1 G5))
        refine hK.out _ _ ?_ (fun hHeld2 => ?_)
        · first | exact hHeld | exact HX5.out _ M4 | exact ⟨HS.out _ K5, HXG.out _ _ M4 G5⟩
        clear hK K hHeld
        have hHeld := hHeld2
        clear hHeld2
        refine wpAnyH_done (by kernel_rfl) ?_ _
        clear hHeld s0 s1 s2 s3 s4 r0 r1 r2
        have O6 : Hid (Opn bs w5 bo (fn + (k + 1)) (goF (setG G y o) o F (E.take (k + 1)))) := by
          rw [HR.out]
          exact O5
        go_wp2
        go_roundw
        case rel => exact ⟨k + 1, by omega, by go_num, K5, O6, J5⟩
        case measure => simp [intOf]; omega
    · have hk2 : k = E.length := by omega
      subst hk2
      have OE := OR.out
      rw [List.take_length] at OE
      go_wp2
      refine ⟨rfl, _, results_none rfl _ _ _, ?_⟩
      exact ⟨rfl, OE, JR.out, TN.trans KR⟩

end Tf
end Go.Proofs.Ytmhongcbgokilad
