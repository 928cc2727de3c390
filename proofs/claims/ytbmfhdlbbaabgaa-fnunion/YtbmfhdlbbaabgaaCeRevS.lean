/- Revoke of the model. -/
import Derived.Test.YtbmfhdlbbaabgaaCeCp2
import Derived.Test.YtbmfhdlbbaabgaaCeIns
import Derived.Deep.Cut
import Derived.Deep.RegionHeld3
namespace Go.Proofs.Ytbmfhdlbbaabgaa
namespace Hn
open Go.ChangeShapes Go.WideShapes Go.ChangeAt Go.RowKit Go.Joins
open Pk (new_below join_below cell_at heap_new frozen_at lt_of kept heap_old Drawn info_of Room own_form own_below)
set_option linter.unusedSimpArgs false
set_option linter.unusedVariables false

theorem wp_append_at {P : Program} {w : World} {o : Oper} {a : Act} {K : Act → World → Prop} {Q : Exit → Act → World → Prop} (s x : Operand) (t : TypeId)
    (ho : o.op = .call { callee := .builtin .append, args := #[s, x], argTypes := #[t, t] })
    (base : Nat) (e : TypeId) (i : TypeInfo) (z : Value) (size bytes : Nat) (ht : P.underlying t = some (.slice e)) (hi : P.info? e = some i) (hz : i.zero = some z)
    (hsize : i.size = size) (hby : i.bytes = bytes) (hzs : z.cells.size = size) (hsz : 0 < size)
    (v : Value) (n : Nat) (xs : List Value) (hs : a.eval s = v) (hown : w.ownsRow base e size v n xs)
    (ad : Addr) (m c : Nat) (news : List Value) (hx : a.eval x = .slice (some ad) m c) (hl : news.length = m * size) (hnews : ∀ j u, news[j]? = some u → w.cell? (ad.add j) = some u) (h1 : ∀ u ∈ news, u.oneCell' = true)
    (h63 : n + m ≤ maxLen) (hbytes : (n + m) * bytes ≤ 140737488355328) (hbase : base ≤ w.heap.size)
    (h : ∀ v' w', w'.ownsRow base e size v' (n + m) (xs ++ news) → w.grownBy w' v.ownBlock → (v'.ownBlock = v.ownBlock ∨ v'.ownBlock = some w.heap.size) → K (a.put o.dst v') w') : o.wp P a w K Q := by
  obtain ⟨v', w', hr, h2, h3, -, h5⟩ := run_append_own_at (P := P) w base t o.type e i z size bytes ht hi hz hsize hby hzs hsz v n xs hown ad m c news hl hnews h1 h63 hbytes hbase
  unfold Oper.wp execOp
  simp only [ho, resolve, invoke, builtin, Sem.run_bind, Sem.run_pure, Result.andThen_ok, List.map_toArray, List.map_cons, List.map_nil, hs, hx, hr]
  exact h v' w' h2 h3 h5

theorem own_some {w : World} {base e size n c : Nat} {a : Option Addr} {xs : List Value} (h : w.ownsRow base e size (.slice a n c) n xs) (hn : 0 < n) : ∃ g, a = some ⟨g, 0, none⟩ := by
  obtain ⟨-, ⟨h1, h2⟩ | ⟨g, cap, cur, h1, -⟩⟩ := h
  · simp only [Value.slice.injEq] at h1
    omega
  · simp only [Value.slice.injEq] at h1
    exact ⟨g, h1.1⟩

theorem own_keep {lo e size n P : Nat} {v w : World} {u : Value} {xs : List Value} (h : v.ownsRow lo e size u n xs) (hP : P < lo) (hk : ∀ b, b < v.heap.size → b ≠ P → w.heap[b]? = v.heap[b]?) : w.ownsRow lo e size u n xs := by
  obtain ⟨k1, k2⟩ := h
  refine ⟨k1, ?_⟩
  rcases k2 with k2 | ⟨g, cap, cur, hv, hg, hh, hr⟩
  · exact Or.inl k2
  · refine Or.inr ⟨g, cap, cur, hv, hg, ?_, hr⟩
    rw [hk g (lt_of hh) (by omega)]
    exact hh

theorem Copied.lower {lo lo' : Nat} {w : World} {y : Pl} {o : Ctr} (h : Copied lo w y o) (hl : lo' ≤ lo) : Copied lo' w y o := ⟨own_lower h.off hl, own_lower h.seen hl⟩

theorem Copied.keep {lo P : Nat} {v w : World} {y : Pl} {o : Ctr} (h : Copied lo v y o) (hP : P < lo) (hk : ∀ b, b < v.heap.size → b ≠ P → w.heap[b]? = v.heap[b]?) : Copied lo w y o := ⟨own_keep h.off hP hk, own_keep h.seen hP hk⟩

theorem Sw.keep {P Q B : Nat} {v u w : World} (s : Sw P Q u w) (L : Below B v u) (hB : v.heap.size ≤ B) (hQ : v.heap.size ≤ Q) : ∀ b, b < v.heap.size → b ≠ P → w.heap[b]? = v.heap[b]? := fun b h1 h2 => (s.block b h2 (by omega)).trans (L.block b (by omega))

theorem one_at {w : World} {b : Nat} {v : Value} {t : TypeId} {f : Nat × Nat} (h : w.heap[b]? = some (.cells #[v] t f)) : ∀ j u, [v][j]? = some u → w.cell? (Addr.add ⟨b, 0, none⟩ j) = some u := by
  intro j u hu
  rw [add_plain, Nat.zero_add, cell_at h, ← hu]
  simp

theorem ints_take {w : World} {b u : Nat} {l : List Int} (k : Nat) (I : Ints w (some ⟨b, u, none⟩) l) : ∀ j v, (icells (l.take k))[j]? = some v → w.cell? (Addr.add ⟨b, u, none⟩ j) = some v := by
  intro j v hv
  refine ints_get I j v ?_
  unfold icells at hv ⊢
  rw [List.map_take, List.getElem?_take] at hv
  split at hv
  · exact hv
  · cases hv

theorem ints_drop {w : World} {b u : Nat} {l : List Int} (k : Nat) (I : Ints w (some ⟨b, u, none⟩) l) : ∀ j v, (icells (l.drop k))[j]? = some v → w.cell? (Addr.add ⟨b, u + k, none⟩ j) = some v := by
  intro j v hv
  have := ints_get I (k + j) v (by
    unfold icells at hv ⊢
    rw [List.map_drop, List.getElem?_drop] at hv
    exact hv)
  rw [add_plain] at this ⊢
  rw [Nat.add_assoc]
  exact this

theorem ints_rest {w : World} {b u u2 n k : Nat} {l : List Int} (hn : l.length ≤ n) (hk : k ≤ l.length) (h : ¬ n = k → u2 = u + k) (I : Ints w (some ⟨b, u, none⟩) l) : ∀ j v, (icells (l.drop k))[j]? = some v → w.cell? (Addr.add ⟨b, u2, none⟩ j) = some v := by
  by_cases e : n = k
  · intro j v hv
    rw [List.drop_eq_nil_of_le (by omega)] at hv
    simp [icells] at hv
  · rw [h e]
    exact ints_drop k I

set_option maxHeartbeats 1000000 in
theorem has_val (a : Option Addr) (l : List Int) (cap : Nat) (id : Int) (w : World) (hz : l.length ≤ 1048576) (I : Ints w a l) :
    Calls Try.prog 48 #[.slice a l.length cap, .int .i64 id] w fun e w' => e = .returned (.bool (decide (id ∈ l))) ∧ w' = w := by
  go_enter Try.func48, Try.ntmps48
  go_wp2
  go_loop [5] (fun i => ∃ k : Nat, k ≤ l.length ∧ i = .int .i64 k ∧ Hid (∀ i (h : i < l.length), i < k → l[i] ≠ id)) (fun i => l.length - (intOf i).toNat)
  case atStart => exact ⟨0, by omega, rfl, fun i _ h => by omega⟩
  case round =>
    obtain ⟨k, hk, rfl, H⟩ := hrel
    by_cases hkn : k < l.length
    · obtain ⟨b, o, rfl, hlt, hc⟩ := I.at k hkn
      by_cases he : l[k] = id
      · have HV : Hid (decide (id ∈ l) = true) := decide_eq_true (he ▸ List.getElem_mem hkn)
        have d : (l[k] == id) = true := by simp [he]
        clear he H
        generalize l[k] = y at *
        go_wp2
        go_ret
        exact ⟨by rw [HV.out] <;> rfl, rfl⟩
      · have d : (l[k] == id) = false := by simp [he]
        have HN : Hid (∀ i (h : i < l.length), i < k + 1 → l[i] ≠ id) := fun i h h2 => by
          by_cases h3 : i = k
          · subst h3; exact he
          · exact H.out i h (by omega)
        clear he H
        generalize l[k] = y at *
        go_wp2
        go_round
        case rel => exact ⟨k + 1, by omega, by go_num, HN⟩
        case measure => simp [intOf]; omega
    · have HV : Hid (decide (id ∈ l) = false) := decide_eq_false fun h => by
        obtain ⟨i, hi, e⟩ := List.getElem_of_mem h
        exact H.out i hi (by omega) e
      clear H
      go_wp2
      go_ret
      exact ⟨by rw [HV.out] <;> rfl, rfl⟩

set_option maxRecDepth 100000 in
set_option maxHeartbeats 8000000 in
theorem specRev_flat (x : Pl) (o : Ctr) (id : Int) (w : World) (hz : o.ol.length ≤ 1048576) (hz2 : o.sl.length ≤ 1048576) (I : In w x o) (fl : Flat x) (hcap : o.ol.length ≤ x.c) :
    Calls Try.prog 17 #[ceV x o, .int .i64 id] w fun e w' => ∃ y, e = .returned (.tuple #[ceV y (revO (revB o id) o id), .bool (revB o id)]) ∧ Copied w.heap.size w' y (revO (revB o id) o id) ∧ (∃ g, y.a = some ⟨g, 0, none⟩) ∧ (∃ g, y.b = some ⟨g, 0, none⟩) ∧ Below w.heap.size w w' := by
  obtain ⟨k0, k1, hs⟩ := two_blocks w (ceB x o 27) (.cells #[.int .i64 0, .slice none 0 0, .slice none 0 0] 27)
  have L : Below w.heap.size w ((w.alloc (ceB x o 27)).alloc (.cells #[.int .i64 0, .slice none 0 0, .slice none 0 0] 27)) := join_below (new_below _ _) (new_below _ _)
  have HC : Hid (∀ W : World, In W x o → _) := fun W h => specCopy_some x o W hz hz2 h fl
  have HH : Hid (∀ W : World, In W x o → _) := fun W h => specCentre_val x o W hz hz2 h
  have HA : Hid (∀ W : World, Ints W x.a o.ol → _) := fun W h => has_val x.a o.ol x.c id W hz h
  obtain ⟨⟨b, u, ea0⟩, -⟩ := fl
  have HEA : Hid (x.a = some ⟨b, u, none⟩) := ea0
  clear ea0
  obtain ⟨i0, hi, hz0, hz1, hz3⟩ := info_of intInfo
  go_enter Try.func17, Try.ntmps17
  go_wp2_with fail
  refine named fun V0 hV => ?_
  rw [← hV] at k0 k1 L hs
  clear hV
  refine (HC.out _ (I.on L)).mono ?_
  rintro e v1 ⟨y, rfl, C1, hya, hyb, L1⟩
  have HYA : Hid (∃ g, y.a = some ⟨g, 0, none⟩) := hya
  have HYB : Hid (∃ g, y.b = some ⟨g, 0, none⟩) := hyb
  clear hya hyb
  have n0 := kept L1 (lt_of k0) k0
  have n1 := kept L1 (lt_of k1) k1
  have B1 := join_below L L1
  have hg : w.heap.size + 1 + 1 ≤ V0.heap.size := Nat.le_of_eq hs.symm
  have hl1 : V0.heap.size ≤ v1.heap.size := L1.size
  have NQ := new_below v1 (ceB y o 27)
  have q2 := heap_new v1 (ceB y o 27)
  have q0 := heap_old n0 (ceB y o 27)
  have q1 := heap_old n1 (ceB y o 27)
  have B2 := join_below B1 NQ
  clear k0 k1 L L1 hs n0 n1
  have a0 : (v1.alloc (ceB y o 27)).cell? ⟨w.heap.size, 0, none⟩ = some (.int .i64 o.ve) := cell_at q0 0
  have a1 : (v1.alloc (ceB y o 27)).cell? ⟨w.heap.size, 1, none⟩ = some (.slice x.a o.ol.length x.c) := cell_at q0 1
  have a2 : (v1.alloc (ceB y o 27)).cell? ⟨w.heap.size, 2, none⟩ = some (.slice x.b o.sl.length x.d) := cell_at q0 2
  go_wp2_with fail
  refine named fun V1 hV => ?_
  rw [← hV] at q0 q1 q2 B2 NQ
  clear hV a0 a1 a2
  refine (HH.out _ (I.on B2)).mono ?_
  rintro e v3 ⟨rfl, L3⟩
  have m0 := kept L3 (lt_of q0) q0
  have m1 := kept L3 (lt_of q1) q1
  have m2 := kept L3 (lt_of q2) q2
  have B3 := join_below B2 L3
  have N3 : Below v1.heap.size v1 v3 := join_below NQ L3
  have hlt3 := lt_of m2
  clear q0 q1 q2 B1 B2 NQ HC HH L3
  cases hb : cenB o
  · have HV : Hid (revB o id = false) := rev_no0 hb
    clear hb HA
    have e0 : v3.cell? ⟨w.heap.size + 1, 0, none⟩ = some (.int .i64 0) := cell_at m1 0
    have e1 : v3.cell? ⟨w.heap.size + 1, 1, none⟩ = some (.slice none 0 0) := cell_at m1 1
    have e2 : v3.cell? ⟨w.heap.size + 1, 2, none⟩ = some (.slice none 0 0) := cell_at m1 2
    have f0 : v3.frozen? ⟨w.heap.size + 1, 0, none⟩ = false := frozen_at m1 0
    have f1 : v3.frozen? ⟨w.heap.size + 1, 1, none⟩ = false := frozen_at m1 1
    have f2 : v3.frozen? ⟨w.heap.size + 1, 2, none⟩ = false := frozen_at m1 2
    have g0 : v3.cell? ⟨v1.heap.size, 0, none⟩ = some (.int .i64 o.ve) := cell_at m2 0
    have g1 : v3.cell? ⟨v1.heap.size, 1, none⟩ = some (.slice y.a o.ol.length y.c) := cell_at m2 1
    have g2 : v3.cell? ⟨v1.heap.size, 2, none⟩ = some (.slice y.b o.sl.length y.d) := cell_at m2 2
    have HFIN : Hid (∀ W, Sw (w.heap.size + 1) v1.heap.size v3 W → Copied w.heap.size W y (revO false o id)) := fun W s => (C1.keep (P := w.heap.size + 1) (by omega) (s.keep N3 (Nat.le_refl _) (Nat.le_refl _))).lower (by omega)
    have HB : Hid (∀ W, Below w.heap.size v3 W → Below w.heap.size w W) := fun W l => (B3).trans l
    have HL : Hid (w.heap.size + 1 + 1 ≤ v1.heap.size) := by show _ ≤ _; omega
    clear m0 m1 m2 C1 B3 N3 hg hl1 hlt3 I
    go_wp2
    refine bodyPost_ret (v := .tuple #[ceV y (o), .bool false]) (by simp [results, Try.results17, go_sem, e0, e1, e2]) rfl ?_
    refine ⟨y, by rw [HV.out] <;> rfl, ?_, HYA.out, HYB.out, HB.out _ ?_⟩
    · rw [HV.out]
      refine HFIN.out _ ?_
      (repeat' (first | with_reducible exact Sw.refl _ _ _ | with_reducible apply Sw.one | with_reducible apply Sw.two))
    · (repeat' (first | apply Below.setCell | exact Below.refl _ _)) <;> first | (simp; done) | (have := HL.out; simp; omega)
  have r1 : v3.cell? ⟨w.heap.size, 1, none⟩ = some (.slice x.a o.ol.length x.c) := cell_at m0 1
  have IA := I.off.on B3
  by_cases hm : id ∈ o.ol
  · have HV : Hid (revB o id = false) := rev_has hb hm
    rw [decide_eq_true hm] at HA
    clear hb hm
    go_wp2_with fail
    refine (HA.out _ IA).mono ?_
    rintro e v4 ⟨rfl, rfl⟩
    clear r1 IA HA
    have e0 : v4.cell? ⟨w.heap.size + 1, 0, none⟩ = some (.int .i64 0) := cell_at m1 0
    have e1 : v4.cell? ⟨w.heap.size + 1, 1, none⟩ = some (.slice none 0 0) := cell_at m1 1
    have e2 : v4.cell? ⟨w.heap.size + 1, 2, none⟩ = some (.slice none 0 0) := cell_at m1 2
    have f0 : v4.frozen? ⟨w.heap.size + 1, 0, none⟩ = false := frozen_at m1 0
    have f1 : v4.frozen? ⟨w.heap.size + 1, 1, none⟩ = false := frozen_at m1 1
    have f2 : v4.frozen? ⟨w.heap.size + 1, 2, none⟩ = false := frozen_at m1 2
    have g0 : v4.cell? ⟨v1.heap.size, 0, none⟩ = some (.int .i64 o.ve) := cell_at m2 0
    have g1 : v4.cell? ⟨v1.heap.size, 1, none⟩ = some (.slice y.a o.ol.length y.c) := cell_at m2 1
    have g2 : v4.cell? ⟨v1.heap.size, 2, none⟩ = some (.slice y.b o.sl.length y.d) := cell_at m2 2
    have HFIN : Hid (∀ W, Sw (w.heap.size + 1) v1.heap.size v4 W → Copied w.heap.size W y (revO false o id)) := fun W s => (C1.keep (P := w.heap.size + 1) (by omega) (s.keep N3 (Nat.le_refl _) (Nat.le_refl _))).lower (by omega)
    have HB : Hid (∀ W, Below w.heap.size v4 W → Below w.heap.size w W) := fun W l => (B3).trans l
    have HL : Hid (w.heap.size + 1 + 1 ≤ v1.heap.size) := by show _ ≤ _; omega
    clear m0 m1 m2 C1 B3 N3 hg hl1 hlt3 I
    go_wp2
    refine bodyPost_ret (v := .tuple #[ceV y (o), .bool false]) (by simp [results, Try.results17, go_sem, e0, e1, e2]) rfl ?_
    refine ⟨y, by rw [HV.out] <;> rfl, ?_, HYA.out, HYB.out, HB.out _ ?_⟩
    · rw [HV.out]
      refine HFIN.out _ ?_
      (repeat' (first | with_reducible exact Sw.refl _ _ _ | with_reducible apply Sw.one | with_reducible apply Sw.two))
    · (repeat' (first | apply Below.setCell | exact Below.refl _ _)) <;> first | (simp; done) | (have := HL.out; simp; omega)
  rw [decide_eq_false hm] at HA
  have HCN : Hid (cenB o = true) := hb
  clear hm hb
  go_wp2_with fail
  refine (HA.out _ IA).mono ?_
  rintro e v4 ⟨rfl, rfl⟩
  clear HA
  have ea := HEA.out
  clear HEA
  obtain ⟨xa, xc, xb, xd⟩ := x
  simp only at ea hcap
  subst ea
  go_wp2
  go_loop [7] (fun i => ∃ k : Nat, k ≤ o.ol.length ∧ i = .int .i64 k ∧ Hid (posI id (o.ol.drop k) + k = posI id o.ol)) (fun i => o.ol.length - (intOf i).toNat)
  case atStart => exact ⟨0, by omega, rfl, rfl⟩
  case round =>
    obtain ⟨k, hk, rfl, HP⟩ := hrel
    by_cases hkn : k < o.ol.length
    · obtain ⟨b', u', e', -, hc⟩ := IA.at k hkn
      simp only [Option.some.injEq, Addr.mk.injEq, and_true] at e'
      obtain ⟨rfl, rfl⟩ := e'
      by_cases hx : o.ol[k] < id
      · have d : decide (o.ol[k] < id) = true := decide_eq_true hx
        have HN : Hid (posI id (o.ol.drop (k + 1)) + (k + 1) = posI id o.ol) := by
          show _ = _
          rw [← HP.out, pos_step hkn hx]
          omega
        clear hx HP
        generalize o.ol[k] = z at *
        go_wp2
        go_round
        case rel => exact ⟨k + 1, by omega, by go_num, HN⟩
        case measure => simp [intOf]; omega
      · have d : decide (o.ol[k] < id) = false := decide_eq_false hx
        have HKP : Hid (posI id o.ol = k) := by
          show _ = _
          rw [← HP.out, pos_stop hkn hx]
          omega
        clear hx HP
        generalize o.ol[k] = z at *
        go_wp2
        have hkc : k ≤ xc := by omega
        have hkz : (0 : Int) ≤ (k : Int) := by omega
        have hkn2 : (k : Int) ≤ (o.ol.length : Int) := by omega
        have hkc2 : (k : Int) ≤ (xc : Int) := by omega
        have hnc : (o.ol.length : Int) ≤ (xc : Int) := by omega
        have hsrc1 : ∀ W, Below v4.heap.size v4 W → _ := fun W l => ints_take k (IA.on l)
        obtain ⟨u2, hu2a, hu2b⟩ : ∃ u2, (xc = k → u2 = u) ∧ (¬ xc = k → u2 = u + k) := ⟨if xc = k then u else u + k, fun h => if_pos h, fun h => if_neg h⟩
        have hsrc2 : ∀ W, Below v4.heap.size v4 W → _ := fun W l => ints_rest (n := xc) (by omega) hk hu2b (IA.on l)
        have HS : Hid (∀ W, Below v4.heap.size v4 W → W.cell? ⟨w.heap.size, 1, none⟩ = some (.slice (some ⟨b, u, none⟩) o.ol.length xc)) := fun W l => cell_at (kept l (lt_of m0) m0) 1
        have HEQ : Hid (∀ (v : Value) (W : World), W.ownsRow v4.heap.size 3 1 v (k + 1 + (o.ol.length - k)) (icells (o.ol.take k) ++ [.int .i64 id] ++ icells (o.ol.drop k)) → Below v4.heap.size v4 W → ∃ va vc, v = .slice va (insI id o.ol).length vc ∧ Below v4.heap.size v4 W ∧ W.ownsRow v4.heap.size 3 1 v (insI id o.ol).length (icells (insI id o.ol))) := by
          intro v W O l
          have e1 : k + 1 + (o.ol.length - k) = (insI id o.ol).length := by rw [ins_len]; omega
          have e2 : icells (o.ol.take k) ++ [.int .i64 id] ++ icells (o.ol.drop k) = icells (insI id o.ol) := by rw [ins_is, HKP.out]; simp [icells]
          rw [e1, e2] at O
          obtain ⟨va, vc, rfl, -⟩ := own_form O
          exact ⟨va, vc, rfl, l, O⟩
        go_cut [8] from 9 (fun t wc => ∃ va vc, t = .slice va (insI id o.ol).length vc ∧ Below v4.heap.size v4 wc ∧ wc.ownsRow v4.heap.size 3 1 t (insI id o.ol).length (icells (insI id o.ol)))
        case first =>
          refine wp_region_held_drew (S := (fun w' => w'.cell? ⟨w.heap.size, 1, none⟩ = some (.slice (some ⟨b, u, none⟩) o.ol.length xc))) (by kernel_rfl) ?_ (fun hHeld => ?_)
          · exact HS.out _ (Below.refl _ _).drew
          refine wpAnyH_take (i := 1) (v := .pointer (some ⟨w.heap.size, 1, none⟩)) rfl (by kernel_rfl) (by kernel_rfl) (by kernel_rfl) (fun _ _ _ h => h) (Or.inl ⟨by kernel_rfl, fun w hSw => by first | (go_simp; done) | (dsimp only at hSw; have s0 := hSw; go_simp; done) | rfl⟩) (by assumption) ?_
          simp only [Act.put, List.getElem_toArray, List.getElem_cons_succ, List.getElem_cons_zero, List.setIfInBounds_toArray, List.set_cons_succ, List.set_cons_zero]
          refine wpAnyH_take (i := 2) (v := .slice (some ⟨b, u, none⟩) o.ol.length xc) rfl (by kernel_rfl) (by kernel_rfl) (by kernel_rfl) (fun _ _ _ h => h) (Or.inl ⟨by kernel_rfl, fun w hSw => by first | (go_simp; done) | (dsimp only at hSw; have s0 := hSw; go_simp; done) | rfl⟩) (by assumption) ?_
          simp only [Act.put, List.getElem_toArray, List.getElem_cons_succ, List.getElem_cons_zero, List.setIfInBounds_toArray, List.set_cons_succ, List.set_cons_zero]
          refine wpAnyH_take (i := 3) (v := .int .i64 k) rfl (by kernel_rfl) (by kernel_rfl) (by kernel_rfl) (fun _ _ _ h => h) (Or.inl ⟨by kernel_rfl, fun w hSw => by first | (go_simp; done) | (dsimp only at hSw; have s0 := hSw; go_simp; done) | rfl⟩) (by assumption) ?_
          simp only [Act.put, List.getElem_toArray, List.getElem_cons_succ, List.getElem_cons_zero, List.setIfInBounds_toArray, List.set_cons_succ, List.set_cons_zero]
          refine wpAnyH_take (i := 4) (v := .slice (some ⟨b, u, none⟩) k xc) rfl (by kernel_rfl) (by kernel_rfl) (by kernel_rfl) (fun _ _ _ h => h) (Or.inl ⟨by kernel_rfl, fun w hSw => by first | (go_simp; done) | (dsimp only at hSw; have s0 := hSw; go_simp; done) | rfl⟩) (by assumption) ?_
          simp only [Act.put, List.getElem_toArray, List.getElem_cons_succ, List.getElem_cons_zero, List.setIfInBounds_toArray, List.set_cons_succ, List.set_cons_zero]
          refine wpAnyH_take (i := 6) (v := .int .i64 id) rfl (by kernel_rfl) (by kernel_rfl) (by kernel_rfl) (fun _ _ _ h => h) (Or.inl ⟨by kernel_rfl, fun w hSw => by first | (go_simp; done) | (dsimp only at hSw; have s0 := hSw; go_simp; done) | rfl⟩) (by assumption) ?_
          simp only [Act.put, List.getElem_toArray, List.getElem_cons_succ, List.getElem_cons_zero, List.setIfInBounds_toArray, List.set_cons_succ, List.set_cons_zero]
          refine wpAnyH_take (i := 9) (v := .pointer (some ⟨w.heap.size, 1, none⟩)) rfl (by kernel_rfl) (by kernel_rfl) (by kernel_rfl) (fun _ _ _ h => h) (Or.inl ⟨by kernel_rfl, fun w hSw => by first | (go_simp; done) | (dsimp only at hSw; have s0 := hSw; go_simp; done) | rfl⟩) (by assumption) ?_
          simp only [Act.put, List.getElem_toArray, List.getElem_cons_succ, List.getElem_cons_zero, List.setIfInBounds_toArray, List.set_cons_succ, List.set_cons_zero]
          refine wpAnyH_take (i := 10) (v := .slice (some ⟨b, u, none⟩) o.ol.length xc) rfl (by kernel_rfl) (by kernel_rfl) (by kernel_rfl) (fun _ _ _ h => h) (Or.inl ⟨by kernel_rfl, fun w hSw => by first | (go_simp; done) | (dsimp only at hSw; have s0 := hSw; go_simp; done) | rfl⟩) (by assumption) ?_
          simp only [Act.put, List.getElem_toArray, List.getElem_cons_succ, List.getElem_cons_zero, List.setIfInBounds_toArray, List.set_cons_succ, List.set_cons_zero]
          refine wpAnyH_take (i := 11) (v := .int .i64 k) rfl (by kernel_rfl) (by kernel_rfl) (by kernel_rfl) (fun _ _ _ h => h) (Or.inl ⟨by kernel_rfl, fun w hSw => by first | (go_simp; done) | (dsimp only at hSw; have s0 := hSw; go_simp; done) | rfl⟩) (by assumption) ?_
          simp only [Act.put, List.getElem_toArray, List.getElem_cons_succ, List.getElem_cons_zero, List.setIfInBounds_toArray, List.set_cons_succ, List.set_cons_zero]
          refine wpAnyH_take (i := 12) (v := .slice (some ⟨b, u2, none⟩) (o.ol.length - k) (xc - k)) rfl (by kernel_rfl) (by kernel_rfl) (by kernel_rfl) (fun _ _ _ h => h) (Or.inl ⟨by kernel_rfl, fun w hSw => by (by_cases hxk : xc = k; (· (rw [hu2a hxk]; go_simp; done)); (· (rw [hu2b hxk]; go_simp; done)))⟩) (by assumption) ?_
          simp only [Act.put, List.getElem_toArray, List.getElem_cons_succ, List.getElem_cons_zero, List.setIfInBounds_toArray, List.set_cons_succ, List.set_cons_zero]
          have KD := (Below.refl v4.heap.size v4).drew
          generalize v4.drew = vd at *
          refine wpAnyH_ready (rs := [0, 7]) (by kernel_rfl) (by simp) ?_
          refine AllReadyH.cons rfl (fun K hK => ?_) (AllReadyH.cons rfl (fun K hK => ?_) (AllReadyH.nil))
          · go_simp
            have zN1 := new_below vd (.cells #[] 3)
            have zm1 := heap_new vd (.cells #[] 3)
            have zK1 := join_below KD zN1
            have zO1 := own_lower (nil_row vd 3 1) (show v4.heap.size ≤ vd.heap.size from (KD).size)
            refine hK.out _ _ ?_ (fun hHeld2 => ?_)
            · exact HS.out _ (zK1)
            clear hK K hHeld
            have hHeld := hHeld2
            clear hHeld2
            obtain ⟨zav1, zhav1⟩ : ∃ av, (Value.slice (some ⟨vd.heap.size, 0, none⟩) 0 0) = av := ⟨_, rfl⟩
            rw [zhav1] at zO1
            try rw [zhav1]
            clear zhav1
            generalize (vd.alloc (.cells #[] 3)) = zw1 at *
            refine wpAnyH_ready (rs := [5, 7]) (by kernel_rfl) (by simp) ?_
            refine AllReadyH.cons rfl (fun K hK => ?_) (AllReadyH.cons rfl (fun K hK => ?_) (AllReadyH.nil))
            · rw [if_pos (by kernel_rfl)]
              refine wp_append_at _ _ 24 rfl v4.heap.size 3 i0 (.int .i64 0) 1 8 Try.underlying24 hi hz0 hz1 hz3 rfl (by omega) _ _ _ rfl zO1 ⟨b, u, none⟩ k xc (icells (o.ol.take k)) rfl (by simp [icells]; omega) (fun j v hv => (hsrc1 _ (zK1)) j v hv) (icells_one _) (by unfold maxLen; omega) (by omega) (by have h3 := (zK1).size; omega) ?_
              intro zv2 zw2 zO2 zG2 zhl2
              have zK2 := (zK1).grown zG2 (zK1).size (fun j hj => (zO1.lt j hj).1)
              rw [Nat.zero_add, List.nil_append] at zO2
              clear zG2 zhl2
              refine hK.out _ _ ?_ (fun hHeld2 => ?_)
              · exact HS.out _ (zK2)
              clear hK K hHeld
              have hHeld := hHeld2
              clear hHeld2
              refine wpAnyH_ready (rs := [7]) (by kernel_rfl) (by simp) ?_
              refine AllReadyH.cons rfl (fun K hK => ?_) (AllReadyH.nil)
              go_simp
              have zN3 := new_below zw2 (.cells #[.int .i64 id] 3)
              have zm3 := heap_new zw2 (.cells #[.int .i64 id] 3)
              have zK3 := join_below zK2 zN3
              have zO3 := own_below zO2 zN3 (Nat.le_refl _)
              have zhn3 : (zv2).ownBlock ≠ some zw2.heap.size := fun h => by have := (zO2.lt _ h).2; omega
              refine hK.out _ _ ?_ (fun hHeld2 => ?_)
              · exact HS.out _ (zK3)
              clear hK K hHeld
              have hHeld := hHeld2
              clear hHeld2
              obtain ⟨zad3, zhad3⟩ : ∃ ad, zw2.heap.size = ad := ⟨_, rfl⟩
              rw [zhad3] at zm3 zhn3
              try rw [zhad3]
              clear zhad3
              generalize (zw2.alloc (.cells #[.int .i64 id] 3)) = zw3 at *
              refine wpAnyH_ready (rs := [8]) (by kernel_rfl) (by simp) ?_
              refine AllReadyH.cons rfl (fun K hK => ?_) (AllReadyH.nil)
              rw [if_pos (by kernel_rfl)]
              refine wp_append_at _ _ 24 rfl v4.heap.size 3 i0 (.int .i64 0) 1 8 Try.underlying24 hi hz0 hz1 hz3 rfl (by omega) _ _ _ rfl zO3 ⟨zad3, 0, none⟩ 1 1 [.int .i64 id] rfl rfl (one_at zm3) (by intro u hu; simp at hu; subst hu; rfl) (by unfold maxLen; omega) (by omega) (by have h3 := (zK3).size; omega) ?_
              intro zv4 zw4 zO4 zG4 zhl4
              have zK4 := (zK3).grown zG4 (zK3).size (fun j hj => (zO3.lt j hj).1)
              clear zG4 zhl4
              refine hK.out _ _ ?_ (fun hHeld2 => ?_)
              · exact HS.out _ (zK4)
              clear hK K hHeld
              have hHeld := hHeld2
              clear hHeld2
              refine wpAnyH_ready (rs := [13]) (by kernel_rfl) (by simp) ?_
              refine AllReadyH.cons rfl (fun K hK => ?_) (AllReadyH.nil)
              rw [if_pos (by kernel_rfl)]
              refine wp_append_at _ _ 24 rfl v4.heap.size 3 i0 (.int .i64 0) 1 8 Try.underlying24 hi hz0 hz1 hz3 rfl (by omega) _ _ _ rfl zO4 ⟨b, u2, none⟩ (o.ol.length - k) (xc - k) (icells (o.ol.drop k)) rfl (by simp [icells]) (fun j v hv => (hsrc2 _ (zK4)) j v hv) (icells_one _) (by unfold maxLen; omega) (by omega) (by have h3 := (zK4).size; omega) ?_
              intro zv5 zw5 zO5 zG5 zhl5
              have zK5 := (zK4).grown zG5 (zK4).size (fun j hj => (zO4.lt j hj).1)
              clear zG5 zhl5
              refine hK.out _ _ ?_ (fun hHeld2 => ?_)
              · exact HS.out _ (zK5)
              clear hK K hHeld
              have hHeld := hHeld2
              clear hHeld2
              refine wpAnyH_ready (rs := [14]) (by kernel_rfl) (by simp) ?_
              refine AllReadyH.cons rfl (fun K hK => ?_) (AllReadyH.nil)
              go_simp
              refine hK.out _ _ ?_ (fun hHeld2 => ?_)
              · exact HS.out _ (zK5)
              clear hK K hHeld
              have hHeld := hHeld2
              clear hHeld2
              refine wpAnyH_done (by kernel_rfl) ?_ _
              go_wp2
              go_meet
              case rel => exact HEQ.out _ _ zO5 (zK5)
            · go_simp
              have zN7 := new_below zw1 (.cells #[.int .i64 id] 3)
              have zm7 := heap_new zw1 (.cells #[.int .i64 id] 3)
              have zK7 := join_below zK1 zN7
              have zO7 := own_below zO1 zN7 (Nat.le_refl _)
              have zhn7 : (zav1).ownBlock ≠ some zw1.heap.size := fun h => by have := (zO1.lt _ h).2; omega
              refine hK.out _ _ ?_ (fun hHeld2 => ?_)
              · exact HS.out _ (zK7)
              clear hK K hHeld
              have hHeld := hHeld2
              clear hHeld2
              obtain ⟨zad7, zhad7⟩ : ∃ ad, zw1.heap.size = ad := ⟨_, rfl⟩
              rw [zhad7] at zm7 zhn7
              try rw [zhad7]
              clear zhad7
              generalize (zw1.alloc (.cells #[.int .i64 id] 3)) = zw7 at *
              refine wpAnyH_ready (rs := [5]) (by kernel_rfl) (by simp) ?_
              refine AllReadyH.cons rfl (fun K hK => ?_) (AllReadyH.nil)
              rw [if_pos (by kernel_rfl)]
              refine wp_append_at _ _ 24 rfl v4.heap.size 3 i0 (.int .i64 0) 1 8 Try.underlying24 hi hz0 hz1 hz3 rfl (by omega) _ _ _ rfl zO7 ⟨b, u, none⟩ k xc (icells (o.ol.take k)) rfl (by simp [icells]; omega) (fun j v hv => (hsrc1 _ (zK7)) j v hv) (icells_one _) (by unfold maxLen; omega) (by omega) (by have h3 := (zK7).size; omega) ?_
              intro zv8 zw8 zO8 zG8 zhl8
              have zK8 := (zK7).grown zG8 (zK7).size (fun j hj => (zO7.lt j hj).1)
              have zq8 : zw8.heap[zad7]? = some (.cells #[.int .i64 id] 3) := by rw [zG8.block zad7 (lt_of zm7) (fun h => zhn7 h.symm)]; exact zm7
              have zhn8 : zv8.ownBlock ≠ some zad7 := by
                rcases zhl8 with h | h
                · rw [h]; exact zhn7
                · rw [h]; intro h2; have := lt_of zm7; simp at h2; omega
              rw [Nat.zero_add, List.nil_append] at zO8
              clear zG8 zhl8
              refine hK.out _ _ ?_ (fun hHeld2 => ?_)
              · exact HS.out _ (zK8)
              clear hK K hHeld
              have hHeld := hHeld2
              clear hHeld2
              refine wpAnyH_ready (rs := [8]) (by kernel_rfl) (by simp) ?_
              refine AllReadyH.cons rfl (fun K hK => ?_) (AllReadyH.nil)
              rw [if_pos (by kernel_rfl)]
              refine wp_append_at _ _ 24 rfl v4.heap.size 3 i0 (.int .i64 0) 1 8 Try.underlying24 hi hz0 hz1 hz3 rfl (by omega) _ _ _ rfl zO8 ⟨zad7, 0, none⟩ 1 1 [.int .i64 id] rfl rfl (one_at zq8) (by intro u hu; simp at hu; subst hu; rfl) (by unfold maxLen; omega) (by omega) (by have h3 := (zK8).size; omega) ?_
              intro zv9 zw9 zO9 zG9 zhl9
              have zK9 := (zK8).grown zG9 (zK8).size (fun j hj => (zO8.lt j hj).1)
              clear zG9 zhl9
              refine hK.out _ _ ?_ (fun hHeld2 => ?_)
              · exact HS.out _ (zK9)
              clear hK K hHeld
              have hHeld := hHeld2
              clear hHeld2
              refine wpAnyH_ready (rs := [13]) (by kernel_rfl) (by simp) ?_
              refine AllReadyH.cons rfl (fun K hK => ?_) (AllReadyH.nil)
              rw [if_pos (by kernel_rfl)]
              refine wp_append_at _ _ 24 rfl v4.heap.size 3 i0 (.int .i64 0) 1 8 Try.underlying24 hi hz0 hz1 hz3 rfl (by omega) _ _ _ rfl zO9 ⟨b, u2, none⟩ (o.ol.length - k) (xc - k) (icells (o.ol.drop k)) rfl (by simp [icells]) (fun j v hv => (hsrc2 _ (zK9)) j v hv) (icells_one _) (by unfold maxLen; omega) (by omega) (by have h3 := (zK9).size; omega) ?_
              intro zv10 zw10 zO10 zG10 zhl10
              have zK10 := (zK9).grown zG10 (zK9).size (fun j hj => (zO9.lt j hj).1)
              clear zG10 zhl10
              refine hK.out _ _ ?_ (fun hHeld2 => ?_)
              · exact HS.out _ (zK10)
              clear hK K hHeld
              have hHeld := hHeld2
              clear hHeld2
              refine wpAnyH_ready (rs := [14]) (by kernel_rfl) (by simp) ?_
              refine AllReadyH.cons rfl (fun K hK => ?_) (AllReadyH.nil)
              go_simp
              refine hK.out _ _ ?_ (fun hHeld2 => ?_)
              · exact HS.out _ (zK10)
              clear hK K hHeld
              have hHeld := hHeld2
              clear hHeld2
              refine wpAnyH_done (by kernel_rfl) ?_ _
              go_wp2
              go_meet
              case rel => exact HEQ.out _ _ zO10 (zK10)
          · go_simp
            have zN12 := new_below vd (.cells #[.int .i64 id] 3)
            have zm12 := heap_new vd (.cells #[.int .i64 id] 3)
            have zK12 := join_below KD zN12
            refine hK.out _ _ ?_ (fun hHeld2 => ?_)
            · exact HS.out _ (zK12)
            clear hK K hHeld
            have hHeld := hHeld2
            clear hHeld2
            obtain ⟨zad12, zhad12⟩ : ∃ ad, vd.heap.size = ad := ⟨_, rfl⟩
            rw [zhad12] at zm12
            try rw [zhad12]
            clear zhad12
            generalize (vd.alloc (.cells #[.int .i64 id] 3)) = zw12 at *
            refine wpAnyH_ready (rs := [0]) (by kernel_rfl) (by simp) ?_
            refine AllReadyH.cons rfl (fun K hK => ?_) (AllReadyH.nil)
            go_simp
            have zN13 := new_below zw12 (.cells #[] 3)
            have zm13 := heap_new zw12 (.cells #[] 3)
            have zK13 := join_below zK12 zN13
            have zO13 := own_lower (nil_row zw12 3 1) (show v4.heap.size ≤ zw12.heap.size from (zK12).size)
            have zq13 := kept zN13 (lt_of zm12) zm12
            have zhn13 : (Value.slice (some ⟨zw12.heap.size, 0, none⟩) 0 0).ownBlock ≠ some zad12 := by have := lt_of zm12; simp [Value.ownBlock]; omega
            refine hK.out _ _ ?_ (fun hHeld2 => ?_)
            · exact HS.out _ (zK13)
            clear hK K hHeld
            have hHeld := hHeld2
            clear hHeld2
            obtain ⟨zav13, zhav13⟩ : ∃ av, (Value.slice (some ⟨zw12.heap.size, 0, none⟩) 0 0) = av := ⟨_, rfl⟩
            rw [zhav13] at zO13 zhn13
            try rw [zhav13]
            clear zhav13
            generalize (zw12.alloc (.cells #[] 3)) = zw13 at *
            refine wpAnyH_ready (rs := [5]) (by kernel_rfl) (by simp) ?_
            refine AllReadyH.cons rfl (fun K hK => ?_) (AllReadyH.nil)
            rw [if_pos (by kernel_rfl)]
            refine wp_append_at _ _ 24 rfl v4.heap.size 3 i0 (.int .i64 0) 1 8 Try.underlying24 hi hz0 hz1 hz3 rfl (by omega) _ _ _ rfl zO13 ⟨b, u, none⟩ k xc (icells (o.ol.take k)) rfl (by simp [icells]; omega) (fun j v hv => (hsrc1 _ (zK13)) j v hv) (icells_one _) (by unfold maxLen; omega) (by omega) (by have h3 := (zK13).size; omega) ?_
            intro zv14 zw14 zO14 zG14 zhl14
            have zK14 := (zK13).grown zG14 (zK13).size (fun j hj => (zO13.lt j hj).1)
            have zq14 : zw14.heap[zad12]? = some (.cells #[.int .i64 id] 3) := by rw [zG14.block zad12 (lt_of zq13) (fun h => zhn13 h.symm)]; exact zq13
            have zhn14 : zv14.ownBlock ≠ some zad12 := by
              rcases zhl14 with h | h
              · rw [h]; exact zhn13
              · rw [h]; intro h2; have := lt_of zq13; simp at h2; omega
            rw [Nat.zero_add, List.nil_append] at zO14
            clear zG14 zhl14
            refine hK.out _ _ ?_ (fun hHeld2 => ?_)
            · exact HS.out _ (zK14)
            clear hK K hHeld
            have hHeld := hHeld2
            clear hHeld2
            refine wpAnyH_ready (rs := [8]) (by kernel_rfl) (by simp) ?_
            refine AllReadyH.cons rfl (fun K hK => ?_) (AllReadyH.nil)
            rw [if_pos (by kernel_rfl)]
            refine wp_append_at _ _ 24 rfl v4.heap.size 3 i0 (.int .i64 0) 1 8 Try.underlying24 hi hz0 hz1 hz3 rfl (by omega) _ _ _ rfl zO14 ⟨zad12, 0, none⟩ 1 1 [.int .i64 id] rfl rfl (one_at zq14) (by intro u hu; simp at hu; subst hu; rfl) (by unfold maxLen; omega) (by omega) (by have h3 := (zK14).size; omega) ?_
            intro zv15 zw15 zO15 zG15 zhl15
            have zK15 := (zK14).grown zG15 (zK14).size (fun j hj => (zO14.lt j hj).1)
            clear zG15 zhl15
            refine hK.out _ _ ?_ (fun hHeld2 => ?_)
            · exact HS.out _ (zK15)
            clear hK K hHeld
            have hHeld := hHeld2
            clear hHeld2
            refine wpAnyH_ready (rs := [13]) (by kernel_rfl) (by simp) ?_
            refine AllReadyH.cons rfl (fun K hK => ?_) (AllReadyH.nil)
            rw [if_pos (by kernel_rfl)]
            refine wp_append_at _ _ 24 rfl v4.heap.size 3 i0 (.int .i64 0) 1 8 Try.underlying24 hi hz0 hz1 hz3 rfl (by omega) _ _ _ rfl zO15 ⟨b, u2, none⟩ (o.ol.length - k) (xc - k) (icells (o.ol.drop k)) rfl (by simp [icells]) (fun j v hv => (hsrc2 _ (zK15)) j v hv) (icells_one _) (by unfold maxLen; omega) (by omega) (by have h3 := (zK15).size; omega) ?_
            intro zv16 zw16 zO16 zG16 zhl16
            have zK16 := (zK15).grown zG16 (zK15).size (fun j hj => (zO15.lt j hj).1)
            clear zG16 zhl16
            refine hK.out _ _ ?_ (fun hHeld2 => ?_)
            · exact HS.out _ (zK16)
            clear hK K hHeld
            have hHeld := hHeld2
            clear hHeld2
            refine wpAnyH_ready (rs := [14]) (by kernel_rfl) (by simp) ?_
            refine AllReadyH.cons rfl (fun K hK => ?_) (AllReadyH.nil)
            go_simp
            refine hK.out _ _ ?_ (fun hHeld2 => ?_)
            · exact HS.out _ (zK16)
            clear hK K hHeld
            have hHeld := hHeld2
            clear hHeld2
            refine wpAnyH_done (by kernel_rfl) ?_ _
            go_wp2
            go_meet
            case rel => exact HEQ.out _ _ zO16 (zK16)
        case rest =>
          obtain ⟨va, vc, rfl, LC, OC⟩ := hcut
          have hil : (insI id o.ol).length ≤ 1048576 := by rw [ins_len]; have := offB_len (cen_off HCN.out); omega
          obtain ⟨va', vc', e', IC⟩ := own_ints OC
          simp only [Value.slice.injEq, true_and] at e'
          obtain ⟨rfl, rfl⟩ := e'
          have p0 := kept LC (lt_of m0) m0
          have p1 := kept LC (lt_of m1) m1
          have p2 := kept LC (lt_of m2) m2
          have B4 := join_below B3 LC
          have N4 := join_below N3 LC
          clear HS HEQ hsrc1 hsrc2 r1 hkc hkz hkn2 hkc2 hnc hu2a hu2b
          have HO := specOff_val va (insI id o.ol) vc wc hil IC
          cases hof : offB (insI id o.ol)
          · have HV : Hid (revB o id = false) := rev_no1 hof
            rw [hof] at HO
            clear hof
            go_wp2_with fail
            refine HO.mono ?_
            rintro e v6 ⟨rfl, D6⟩
            have L6 := D6.below wc.heap.size
            have s0 := kept L6 (lt_of p0) p0
            have s1 := kept L6 (lt_of p1) p1
            have s2 := kept L6 (lt_of p2) p2
            have B6 := join_below B4 L6
            have N6 := join_below N4 L6
            clear D6 L6 HO
            have e0 : v6.cell? ⟨w.heap.size + 1, 0, none⟩ = some (.int .i64 0) := cell_at s1 0
            have e1 : v6.cell? ⟨w.heap.size + 1, 1, none⟩ = some (.slice none 0 0) := cell_at s1 1
            have e2 : v6.cell? ⟨w.heap.size + 1, 2, none⟩ = some (.slice none 0 0) := cell_at s1 2
            have f0 : v6.frozen? ⟨w.heap.size + 1, 0, none⟩ = false := frozen_at s1 0
            have f1 : v6.frozen? ⟨w.heap.size + 1, 1, none⟩ = false := frozen_at s1 1
            have f2 : v6.frozen? ⟨w.heap.size + 1, 2, none⟩ = false := frozen_at s1 2
            have g0 : v6.cell? ⟨v1.heap.size, 0, none⟩ = some (.int .i64 o.ve) := cell_at s2 0
            have g1 : v6.cell? ⟨v1.heap.size, 1, none⟩ = some (.slice y.a o.ol.length y.c) := cell_at s2 1
            have g2 : v6.cell? ⟨v1.heap.size, 2, none⟩ = some (.slice y.b o.sl.length y.d) := cell_at s2 2
            have HFIN : Hid (∀ W, Sw (w.heap.size + 1) v1.heap.size v6 W → Copied w.heap.size W y (revO false o id)) := fun W s => (C1.keep (P := w.heap.size + 1) (by omega) (s.keep N6 (Nat.le_refl _) (Nat.le_refl _))).lower (by omega)
            have HB : Hid (∀ W, Below w.heap.size v6 W → Below w.heap.size w W) := fun W l => (B6).trans l
            have HL : Hid (w.heap.size + 1 + 1 ≤ v1.heap.size) := by show _ ≤ _; omega
            clear s0 s1 s2 C1 B6 N6 hg hl1 hlt3 I IA IC OC LC p0 p1 p2 B4 N4 m0 m1 m2 B3 N3 hil
            go_wp2
            refine bodyPost_ret (v := .tuple #[ceV y (o), .bool false]) (by simp [results, Try.results17, go_sem, e0, e1, e2]) rfl ?_
            refine ⟨y, by rw [HV.out] <;> rfl, ?_, HYA.out, HYB.out, HB.out _ ?_⟩
            · rw [HV.out]
              refine HFIN.out _ ?_
              (repeat' (first | with_reducible exact Sw.refl _ _ _ | with_reducible apply Sw.one | with_reducible apply Sw.two))
            · (repeat' (first | apply Below.setCell | exact Below.refl _ _)) <;> first | (simp; done) | (have := HL.out; simp; omega)
          · have HV : Hid (revB o id = true) := rev_is HCN.out hof
            rw [hof] at HO
            clear hof
            go_wp2_with fail
            refine HO.mono ?_
            rintro e v6 ⟨rfl, D6⟩
            have L6 := D6.below wc.heap.size
            have s0 := kept L6 (lt_of p0) p0
            have s1 := kept L6 (lt_of p1) p1
            have s2 := kept L6 (lt_of p2) p2
            have O6 := own_below OC L6 (Nat.le_refl _)
            have B6 := join_below B4 L6
            have N6 := join_below N4 L6
            have hne : v1.heap.size ≠ w.heap.size + 1 := by omega
            have hne2 : v1.heap.size ≠ w.heap.size := by omega
            clear D6 L6 HO
            have e0 : v6.cell? ⟨w.heap.size + 1, 0, none⟩ = some (.int .i64 0) := cell_at s1 0
            have e1 : v6.cell? ⟨w.heap.size + 1, 1, none⟩ = some (.slice none 0 0) := cell_at s1 1
            have e2 : v6.cell? ⟨w.heap.size + 1, 2, none⟩ = some (.slice none 0 0) := cell_at s1 2
            have f0 : v6.frozen? ⟨w.heap.size + 1, 0, none⟩ = false := frozen_at s1 0
            have f1 : v6.frozen? ⟨w.heap.size + 1, 1, none⟩ = false := frozen_at s1 1
            have f2 : v6.frozen? ⟨w.heap.size + 1, 2, none⟩ = false := frozen_at s1 2
            have g0 : v6.cell? ⟨v1.heap.size, 0, none⟩ = some (.int .i64 o.ve) := cell_at s2 0
            have g1 : v6.cell? ⟨v1.heap.size, 1, none⟩ = some (.slice y.a o.ol.length y.c) := cell_at s2 1
            have g2 : v6.cell? ⟨v1.heap.size, 2, none⟩ = some (.slice y.b o.sl.length y.d) := cell_at s2 2
            have h0 : v6.frozen? ⟨v1.heap.size, 0, none⟩ = false := frozen_at s2 0
            have h1 : v6.frozen? ⟨v1.heap.size, 1, none⟩ = false := frozen_at s2 1
            have a0 : v6.cell? ⟨w.heap.size, 0, none⟩ = some (.int .i64 o.ve) := cell_at s0 0
            have HVA : Hid (∃ g, va = some ⟨g, 0, none⟩) := own_some O6 (by rw [ins_len]; omega)
            have HFIN : Hid (∀ W, Sw (w.heap.size + 1) v1.heap.size v6 W → Copied w.heap.size W ⟨va, vc, y.b, y.d⟩ (revO true o id)) := fun W s => ⟨own_lower (s.own O6 (by omega) (by omega)) (by omega), own_lower (own_keep (P := w.heap.size + 1) C1.seen (by omega) (s.keep N6 (Nat.le_refl _) (Nat.le_refl _))) (by omega)⟩
            have HB : Hid (∀ W, Below w.heap.size v6 W → Below w.heap.size w W) := fun W l => B6.trans l
            have HL : Hid (w.heap.size + 1 + 1 ≤ v1.heap.size) := by show _ ≤ _; omega
            clear s0 s1 s2 C1 B6 N6 hg hl1 hlt3 I IA IC OC LC p0 p1 p2 B4 N4 m0 m1 m2 B3 N3 hil O6
            go_wp2
            refine bodyPost_ret (v := .tuple #[ceV ⟨va, vc, y.b, y.d⟩ (⟨wrap64 (o.ve + 1), insI id o.ol, o.sl⟩), .bool true]) (by simp [results, Try.results17, go_sem, e0, e1, e2]) rfl ?_
            refine ⟨⟨va, vc, y.b, y.d⟩, by rw [HV.out] <;> rfl, ?_, HVA.out, HYB.out, HB.out _ ?_⟩
            · rw [HV.out]
              refine HFIN.out _ ?_
              (repeat' (first | with_reducible exact Sw.refl _ _ _ | with_reducible apply Sw.one | with_reducible apply Sw.two))
            · (repeat' (first | apply Below.setCell | exact Below.refl _ _)) <;> first | (simp; done) | (have := HL.out; simp; omega)
    · have HKP : Hid (posI id o.ol = k) := by
        show _ = _
        obtain rfl : k = o.ol.length := by omega
        rw [← HP.out, pos_end]
        omega
      clear HP
      go_wp2
      have hkc : k ≤ xc := by omega
      have hkz : (0 : Int) ≤ (k : Int) := by omega
      have hkn2 : (k : Int) ≤ (o.ol.length : Int) := by omega
      have hkc2 : (k : Int) ≤ (xc : Int) := by omega
      have hnc : (o.ol.length : Int) ≤ (xc : Int) := by omega
      have hsrc1 : ∀ W, Below v4.heap.size v4 W → _ := fun W l => ints_take k (IA.on l)
      obtain ⟨u2, hu2a, hu2b⟩ : ∃ u2, (xc = k → u2 = u) ∧ (¬ xc = k → u2 = u + k) := ⟨if xc = k then u else u + k, fun h => if_pos h, fun h => if_neg h⟩
      have hsrc2 : ∀ W, Below v4.heap.size v4 W → _ := fun W l => ints_rest (n := xc) (by omega) hk hu2b (IA.on l)
      have HS : Hid (∀ W, Below v4.heap.size v4 W → W.cell? ⟨w.heap.size, 1, none⟩ = some (.slice (some ⟨b, u, none⟩) o.ol.length xc)) := fun W l => cell_at (kept l (lt_of m0) m0) 1
      have HEQ : Hid (∀ (v : Value) (W : World), W.ownsRow v4.heap.size 3 1 v (k + 1 + (o.ol.length - k)) (icells (o.ol.take k) ++ [.int .i64 id] ++ icells (o.ol.drop k)) → Below v4.heap.size v4 W → ∃ va vc, v = .slice va (insI id o.ol).length vc ∧ Below v4.heap.size v4 W ∧ W.ownsRow v4.heap.size 3 1 v (insI id o.ol).length (icells (insI id o.ol))) := by
        intro v W O l
        have e1 : k + 1 + (o.ol.length - k) = (insI id o.ol).length := by rw [ins_len]; omega
        have e2 : icells (o.ol.take k) ++ [.int .i64 id] ++ icells (o.ol.drop k) = icells (insI id o.ol) := by rw [ins_is, HKP.out]; simp [icells]
        rw [e1, e2] at O
        obtain ⟨va, vc, rfl, -⟩ := own_form O
        exact ⟨va, vc, rfl, l, O⟩
      go_cut [8] from 9 (fun t wc => ∃ va vc, t = .slice va (insI id o.ol).length vc ∧ Below v4.heap.size v4 wc ∧ wc.ownsRow v4.heap.size 3 1 t (insI id o.ol).length (icells (insI id o.ol)))
      case first =>
        refine wp_region_held_drew (S := (fun w' => w'.cell? ⟨w.heap.size, 1, none⟩ = some (.slice (some ⟨b, u, none⟩) o.ol.length xc))) (by kernel_rfl) ?_ (fun hHeld => ?_)
        · exact HS.out _ (Below.refl _ _).drew
        refine wpAnyH_take (i := 1) (v := .pointer (some ⟨w.heap.size, 1, none⟩)) rfl (by kernel_rfl) (by kernel_rfl) (by kernel_rfl) (fun _ _ _ h => h) (Or.inl ⟨by kernel_rfl, fun w hSw => by first | (go_simp; done) | (dsimp only at hSw; have s0 := hSw; go_simp; done) | rfl⟩) (by assumption) ?_
        simp only [Act.put, List.getElem_toArray, List.getElem_cons_succ, List.getElem_cons_zero, List.setIfInBounds_toArray, List.set_cons_succ, List.set_cons_zero]
        refine wpAnyH_take (i := 2) (v := .slice (some ⟨b, u, none⟩) o.ol.length xc) rfl (by kernel_rfl) (by kernel_rfl) (by kernel_rfl) (fun _ _ _ h => h) (Or.inl ⟨by kernel_rfl, fun w hSw => by first | (go_simp; done) | (dsimp only at hSw; have s0 := hSw; go_simp; done) | rfl⟩) (by assumption) ?_
        simp only [Act.put, List.getElem_toArray, List.getElem_cons_succ, List.getElem_cons_zero, List.setIfInBounds_toArray, List.set_cons_succ, List.set_cons_zero]
        refine wpAnyH_take (i := 3) (v := .int .i64 k) rfl (by kernel_rfl) (by kernel_rfl) (by kernel_rfl) (fun _ _ _ h => h) (Or.inl ⟨by kernel_rfl, fun w hSw => by first | (go_simp; done) | (dsimp only at hSw; have s0 := hSw; go_simp; done) | rfl⟩) (by assumption) ?_
        simp only [Act.put, List.getElem_toArray, List.getElem_cons_succ, List.getElem_cons_zero, List.setIfInBounds_toArray, List.set_cons_succ, List.set_cons_zero]
        refine wpAnyH_take (i := 4) (v := .slice (some ⟨b, u, none⟩) k xc) rfl (by kernel_rfl) (by kernel_rfl) (by kernel_rfl) (fun _ _ _ h => h) (Or.inl ⟨by kernel_rfl, fun w hSw => by first | (go_simp; done) | (dsimp only at hSw; have s0 := hSw; go_simp; done) | rfl⟩) (by assumption) ?_
        simp only [Act.put, List.getElem_toArray, List.getElem_cons_succ, List.getElem_cons_zero, List.setIfInBounds_toArray, List.set_cons_succ, List.set_cons_zero]
        refine wpAnyH_take (i := 6) (v := .int .i64 id) rfl (by kernel_rfl) (by kernel_rfl) (by kernel_rfl) (fun _ _ _ h => h) (Or.inl ⟨by kernel_rfl, fun w hSw => by first | (go_simp; done) | (dsimp only at hSw; have s0 := hSw; go_simp; done) | rfl⟩) (by assumption) ?_
        simp only [Act.put, List.getElem_toArray, List.getElem_cons_succ, List.getElem_cons_zero, List.setIfInBounds_toArray, List.set_cons_succ, List.set_cons_zero]
        refine wpAnyH_take (i := 9) (v := .pointer (some ⟨w.heap.size, 1, none⟩)) rfl (by kernel_rfl) (by kernel_rfl) (by kernel_rfl) (fun _ _ _ h => h) (Or.inl ⟨by kernel_rfl, fun w hSw => by first | (go_simp; done) | (dsimp only at hSw; have s0 := hSw; go_simp; done) | rfl⟩) (by assumption) ?_
        simp only [Act.put, List.getElem_toArray, List.getElem_cons_succ, List.getElem_cons_zero, List.setIfInBounds_toArray, List.set_cons_succ, List.set_cons_zero]
        refine wpAnyH_take (i := 10) (v := .slice (some ⟨b, u, none⟩) o.ol.length xc) rfl (by kernel_rfl) (by kernel_rfl) (by kernel_rfl) (fun _ _ _ h => h) (Or.inl ⟨by kernel_rfl, fun w hSw => by first | (go_simp; done) | (dsimp only at hSw; have s0 := hSw; go_simp; done) | rfl⟩) (by assumption) ?_
        simp only [Act.put, List.getElem_toArray, List.getElem_cons_succ, List.getElem_cons_zero, List.setIfInBounds_toArray, List.set_cons_succ, List.set_cons_zero]
        refine wpAnyH_take (i := 11) (v := .int .i64 k) rfl (by kernel_rfl) (by kernel_rfl) (by kernel_rfl) (fun _ _ _ h => h) (Or.inl ⟨by kernel_rfl, fun w hSw => by first | (go_simp; done) | (dsimp only at hSw; have s0 := hSw; go_simp; done) | rfl⟩) (by assumption) ?_
        simp only [Act.put, List.getElem_toArray, List.getElem_cons_succ, List.getElem_cons_zero, List.setIfInBounds_toArray, List.set_cons_succ, List.set_cons_zero]
        refine wpAnyH_take (i := 12) (v := .slice (some ⟨b, u2, none⟩) (o.ol.length - k) (xc - k)) rfl (by kernel_rfl) (by kernel_rfl) (by kernel_rfl) (fun _ _ _ h => h) (Or.inl ⟨by kernel_rfl, fun w hSw => by (by_cases hxk : xc = k; (· (rw [hu2a hxk]; go_simp; done)); (· (rw [hu2b hxk]; go_simp; done)))⟩) (by assumption) ?_
        simp only [Act.put, List.getElem_toArray, List.getElem_cons_succ, List.getElem_cons_zero, List.setIfInBounds_toArray, List.set_cons_succ, List.set_cons_zero]
        have KD := (Below.refl v4.heap.size v4).drew
        generalize v4.drew = vd at *
        refine wpAnyH_ready (rs := [0, 7]) (by kernel_rfl) (by simp) ?_
        refine AllReadyH.cons rfl (fun K hK => ?_) (AllReadyH.cons rfl (fun K hK => ?_) (AllReadyH.nil))
        · go_simp
          have zN1 := new_below vd (.cells #[] 3)
          have zm1 := heap_new vd (.cells #[] 3)
          have zK1 := join_below KD zN1
          have zO1 := own_lower (nil_row vd 3 1) (show v4.heap.size ≤ vd.heap.size from (KD).size)
          refine hK.out _ _ ?_ (fun hHeld2 => ?_)
          · exact HS.out _ (zK1)
          clear hK K hHeld
          have hHeld := hHeld2
          clear hHeld2
          obtain ⟨zav1, zhav1⟩ : ∃ av, (Value.slice (some ⟨vd.heap.size, 0, none⟩) 0 0) = av := ⟨_, rfl⟩
          rw [zhav1] at zO1
          try rw [zhav1]
          clear zhav1
          generalize (vd.alloc (.cells #[] 3)) = zw1 at *
          refine wpAnyH_ready (rs := [5, 7]) (by kernel_rfl) (by simp) ?_
          refine AllReadyH.cons rfl (fun K hK => ?_) (AllReadyH.cons rfl (fun K hK => ?_) (AllReadyH.nil))
          · rw [if_pos (by kernel_rfl)]
            refine wp_append_at _ _ 24 rfl v4.heap.size 3 i0 (.int .i64 0) 1 8 Try.underlying24 hi hz0 hz1 hz3 rfl (by omega) _ _ _ rfl zO1 ⟨b, u, none⟩ k xc (icells (o.ol.take k)) rfl (by simp [icells]; omega) (fun j v hv => (hsrc1 _ (zK1)) j v hv) (icells_one _) (by unfold maxLen; omega) (by omega) (by have h3 := (zK1).size; omega) ?_
            intro zv2 zw2 zO2 zG2 zhl2
            have zK2 := (zK1).grown zG2 (zK1).size (fun j hj => (zO1.lt j hj).1)
            rw [Nat.zero_add, List.nil_append] at zO2
            clear zG2 zhl2
            refine hK.out _ _ ?_ (fun hHeld2 => ?_)
            · exact HS.out _ (zK2)
            clear hK K hHeld
            have hHeld := hHeld2
            clear hHeld2
            refine wpAnyH_ready (rs := [7]) (by kernel_rfl) (by simp) ?_
            refine AllReadyH.cons rfl (fun K hK => ?_) (AllReadyH.nil)
            go_simp
            have zN3 := new_below zw2 (.cells #[.int .i64 id] 3)
            have zm3 := heap_new zw2 (.cells #[.int .i64 id] 3)
            have zK3 := join_below zK2 zN3
            have zO3 := own_below zO2 zN3 (Nat.le_refl _)
            have zhn3 : (zv2).ownBlock ≠ some zw2.heap.size := fun h => by have := (zO2.lt _ h).2; omega
            refine hK.out _ _ ?_ (fun hHeld2 => ?_)
            · exact HS.out _ (zK3)
            clear hK K hHeld
            have hHeld := hHeld2
            clear hHeld2
            obtain ⟨zad3, zhad3⟩ : ∃ ad, zw2.heap.size = ad := ⟨_, rfl⟩
            rw [zhad3] at zm3 zhn3
            try rw [zhad3]
            clear zhad3
            generalize (zw2.alloc (.cells #[.int .i64 id] 3)) = zw3 at *
            refine wpAnyH_ready (rs := [8]) (by kernel_rfl) (by simp) ?_
            refine AllReadyH.cons rfl (fun K hK => ?_) (AllReadyH.nil)
            rw [if_pos (by kernel_rfl)]
            refine wp_append_at _ _ 24 rfl v4.heap.size 3 i0 (.int .i64 0) 1 8 Try.underlying24 hi hz0 hz1 hz3 rfl (by omega) _ _ _ rfl zO3 ⟨zad3, 0, none⟩ 1 1 [.int .i64 id] rfl rfl (one_at zm3) (by intro u hu; simp at hu; subst hu; rfl) (by unfold maxLen; omega) (by omega) (by have h3 := (zK3).size; omega) ?_
            intro zv4 zw4 zO4 zG4 zhl4
            have zK4 := (zK3).grown zG4 (zK3).size (fun j hj => (zO3.lt j hj).1)
            clear zG4 zhl4
            refine hK.out _ _ ?_ (fun hHeld2 => ?_)
            · exact HS.out _ (zK4)
            clear hK K hHeld
            have hHeld := hHeld2
            clear hHeld2
            refine wpAnyH_ready (rs := [13]) (by kernel_rfl) (by simp) ?_
            refine AllReadyH.cons rfl (fun K hK => ?_) (AllReadyH.nil)
            rw [if_pos (by kernel_rfl)]
            refine wp_append_at _ _ 24 rfl v4.heap.size 3 i0 (.int .i64 0) 1 8 Try.underlying24 hi hz0 hz1 hz3 rfl (by omega) _ _ _ rfl zO4 ⟨b, u2, none⟩ (o.ol.length - k) (xc - k) (icells (o.ol.drop k)) rfl (by simp [icells]) (fun j v hv => (hsrc2 _ (zK4)) j v hv) (icells_one _) (by unfold maxLen; omega) (by omega) (by have h3 := (zK4).size; omega) ?_
            intro zv5 zw5 zO5 zG5 zhl5
            have zK5 := (zK4).grown zG5 (zK4).size (fun j hj => (zO4.lt j hj).1)
            clear zG5 zhl5
            refine hK.out _ _ ?_ (fun hHeld2 => ?_)
            · exact HS.out _ (zK5)
            clear hK K hHeld
            have hHeld := hHeld2
            clear hHeld2
            refine wpAnyH_ready (rs := [14]) (by kernel_rfl) (by simp) ?_
            refine AllReadyH.cons rfl (fun K hK => ?_) (AllReadyH.nil)
            go_simp
            refine hK.out _ _ ?_ (fun hHeld2 => ?_)
            · exact HS.out _ (zK5)
            clear hK K hHeld
            have hHeld := hHeld2
            clear hHeld2
            refine wpAnyH_done (by kernel_rfl) ?_ _
            go_wp2
            go_meet
            case rel => exact HEQ.out _ _ zO5 (zK5)
          · go_simp
            have zN7 := new_below zw1 (.cells #[.int .i64 id] 3)
            have zm7 := heap_new zw1 (.cells #[.int .i64 id] 3)
            have zK7 := join_below zK1 zN7
            have zO7 := own_below zO1 zN7 (Nat.le_refl _)
            have zhn7 : (zav1).ownBlock ≠ some zw1.heap.size := fun h => by have := (zO1.lt _ h).2; omega
            refine hK.out _ _ ?_ (fun hHeld2 => ?_)
            · exact HS.out _ (zK7)
            clear hK K hHeld
            have hHeld := hHeld2
            clear hHeld2
            obtain ⟨zad7, zhad7⟩ : ∃ ad, zw1.heap.size = ad := ⟨_, rfl⟩
            rw [zhad7] at zm7 zhn7
            try rw [zhad7]
            clear zhad7
            generalize (zw1.alloc (.cells #[.int .i64 id] 3)) = zw7 at *
            refine wpAnyH_ready (rs := [5]) (by kernel_rfl) (by simp) ?_
            refine AllReadyH.cons rfl (fun K hK => ?_) (AllReadyH.nil)
            rw [if_pos (by kernel_rfl)]
            refine wp_append_at _ _ 24 rfl v4.heap.size 3 i0 (.int .i64 0) 1 8 Try.underlying24 hi hz0 hz1 hz3 rfl (by omega) _ _ _ rfl zO7 ⟨b, u, none⟩ k xc (icells (o.ol.take k)) rfl (by simp [icells]; omega) (fun j v hv => (hsrc1 _ (zK7)) j v hv) (icells_one _) (by unfold maxLen; omega) (by omega) (by have h3 := (zK7).size; omega) ?_
            intro zv8 zw8 zO8 zG8 zhl8
            have zK8 := (zK7).grown zG8 (zK7).size (fun j hj => (zO7.lt j hj).1)
            have zq8 : zw8.heap[zad7]? = some (.cells #[.int .i64 id] 3) := by rw [zG8.block zad7 (lt_of zm7) (fun h => zhn7 h.symm)]; exact zm7
            have zhn8 : zv8.ownBlock ≠ some zad7 := by
              rcases zhl8 with h | h
              · rw [h]; exact zhn7
              · rw [h]; intro h2; have := lt_of zm7; simp at h2; omega
            rw [Nat.zero_add, List.nil_append] at zO8
            clear zG8 zhl8
            refine hK.out _ _ ?_ (fun hHeld2 => ?_)
            · exact HS.out _ (zK8)
            clear hK K hHeld
            have hHeld := hHeld2
            clear hHeld2
            refine wpAnyH_ready (rs := [8]) (by kernel_rfl) (by simp) ?_
            refine AllReadyH.cons rfl (fun K hK => ?_) (AllReadyH.nil)
            rw [if_pos (by kernel_rfl)]
            refine wp_append_at _ _ 24 rfl v4.heap.size 3 i0 (.int .i64 0) 1 8 Try.underlying24 hi hz0 hz1 hz3 rfl (by omega) _ _ _ rfl zO8 ⟨zad7, 0, none⟩ 1 1 [.int .i64 id] rfl rfl (one_at zq8) (by intro u hu; simp at hu; subst hu; rfl) (by unfold maxLen; omega) (by omega) (by have h3 := (zK8).size; omega) ?_
            intro zv9 zw9 zO9 zG9 zhl9
            have zK9 := (zK8).grown zG9 (zK8).size (fun j hj => (zO8.lt j hj).1)
            clear zG9 zhl9
            refine hK.out _ _ ?_ (fun hHeld2 => ?_)
            · exact HS.out _ (zK9)
            clear hK K hHeld
            have hHeld := hHeld2
            clear hHeld2
            refine wpAnyH_ready (rs := [13]) (by kernel_rfl) (by simp) ?_
            refine AllReadyH.cons rfl (fun K hK => ?_) (AllReadyH.nil)
            rw [if_pos (by kernel_rfl)]
            refine wp_append_at _ _ 24 rfl v4.heap.size 3 i0 (.int .i64 0) 1 8 Try.underlying24 hi hz0 hz1 hz3 rfl (by omega) _ _ _ rfl zO9 ⟨b, u2, none⟩ (o.ol.length - k) (xc - k) (icells (o.ol.drop k)) rfl (by simp [icells]) (fun j v hv => (hsrc2 _ (zK9)) j v hv) (icells_one _) (by unfold maxLen; omega) (by omega) (by have h3 := (zK9).size; omega) ?_
            intro zv10 zw10 zO10 zG10 zhl10
            have zK10 := (zK9).grown zG10 (zK9).size (fun j hj => (zO9.lt j hj).1)
            clear zG10 zhl10
            refine hK.out _ _ ?_ (fun hHeld2 => ?_)
            · exact HS.out _ (zK10)
            clear hK K hHeld
            have hHeld := hHeld2
            clear hHeld2
            refine wpAnyH_ready (rs := [14]) (by kernel_rfl) (by simp) ?_
            refine AllReadyH.cons rfl (fun K hK => ?_) (AllReadyH.nil)
            go_simp
            refine hK.out _ _ ?_ (fun hHeld2 => ?_)
            · exact HS.out _ (zK10)
            clear hK K hHeld
            have hHeld := hHeld2
            clear hHeld2
            refine wpAnyH_done (by kernel_rfl) ?_ _
            go_wp2
            go_meet
            case rel => exact HEQ.out _ _ zO10 (zK10)
        · go_simp
          have zN12 := new_below vd (.cells #[.int .i64 id] 3)
          have zm12 := heap_new vd (.cells #[.int .i64 id] 3)
          have zK12 := join_below KD zN12
          refine hK.out _ _ ?_ (fun hHeld2 => ?_)
          · exact HS.out _ (zK12)
          clear hK K hHeld
          have hHeld := hHeld2
          clear hHeld2
          obtain ⟨zad12, zhad12⟩ : ∃ ad, vd.heap.size = ad := ⟨_, rfl⟩
          rw [zhad12] at zm12
          try rw [zhad12]
          clear zhad12
          generalize (vd.alloc (.cells #[.int .i64 id] 3)) = zw12 at *
          refine wpAnyH_ready (rs := [0]) (by kernel_rfl) (by simp) ?_
          refine AllReadyH.cons rfl (fun K hK => ?_) (AllReadyH.nil)
          go_simp
          have zN13 := new_below zw12 (.cells #[] 3)
          have zm13 := heap_new zw12 (.cells #[] 3)
          have zK13 := join_below zK12 zN13
          have zO13 := own_lower (nil_row zw12 3 1) (show v4.heap.size ≤ zw12.heap.size from (zK12).size)
          have zq13 := kept zN13 (lt_of zm12) zm12
          have zhn13 : (Value.slice (some ⟨zw12.heap.size, 0, none⟩) 0 0).ownBlock ≠ some zad12 := by have := lt_of zm12; simp [Value.ownBlock]; omega
          refine hK.out _ _ ?_ (fun hHeld2 => ?_)
          · exact HS.out _ (zK13)
          clear hK K hHeld
          have hHeld := hHeld2
          clear hHeld2
          obtain ⟨zav13, zhav13⟩ : ∃ av, (Value.slice (some ⟨zw12.heap.size, 0, none⟩) 0 0) = av := ⟨_, rfl⟩
          rw [zhav13] at zO13 zhn13
          try rw [zhav13]
          clear zhav13
          generalize (zw12.alloc (.cells #[] 3)) = zw13 at *
          refine wpAnyH_ready (rs := [5]) (by kernel_rfl) (by simp) ?_
          refine AllReadyH.cons rfl (fun K hK => ?_) (AllReadyH.nil)
          rw [if_pos (by kernel_rfl)]
          refine wp_append_at _ _ 24 rfl v4.heap.size 3 i0 (.int .i64 0) 1 8 Try.underlying24 hi hz0 hz1 hz3 rfl (by omega) _ _ _ rfl zO13 ⟨b, u, none⟩ k xc (icells (o.ol.take k)) rfl (by simp [icells]; omega) (fun j v hv => (hsrc1 _ (zK13)) j v hv) (icells_one _) (by unfold maxLen; omega) (by omega) (by have h3 := (zK13).size; omega) ?_
          intro zv14 zw14 zO14 zG14 zhl14
          have zK14 := (zK13).grown zG14 (zK13).size (fun j hj => (zO13.lt j hj).1)
          have zq14 : zw14.heap[zad12]? = some (.cells #[.int .i64 id] 3) := by rw [zG14.block zad12 (lt_of zq13) (fun h => zhn13 h.symm)]; exact zq13
          have zhn14 : zv14.ownBlock ≠ some zad12 := by
            rcases zhl14 with h | h
            · rw [h]; exact zhn13
            · rw [h]; intro h2; have := lt_of zq13; simp at h2; omega
          rw [Nat.zero_add, List.nil_append] at zO14
          clear zG14 zhl14
          refine hK.out _ _ ?_ (fun hHeld2 => ?_)
          · exact HS.out _ (zK14)
          clear hK K hHeld
          have hHeld := hHeld2
          clear hHeld2
          refine wpAnyH_ready (rs := [8]) (by kernel_rfl) (by simp) ?_
          refine AllReadyH.cons rfl (fun K hK => ?_) (AllReadyH.nil)
          rw [if_pos (by kernel_rfl)]
          refine wp_append_at _ _ 24 rfl v4.heap.size 3 i0 (.int .i64 0) 1 8 Try.underlying24 hi hz0 hz1 hz3 rfl (by omega) _ _ _ rfl zO14 ⟨zad12, 0, none⟩ 1 1 [.int .i64 id] rfl rfl (one_at zq14) (by intro u hu; simp at hu; subst hu; rfl) (by unfold maxLen; omega) (by omega) (by have h3 := (zK14).size; omega) ?_
          intro zv15 zw15 zO15 zG15 zhl15
          have zK15 := (zK14).grown zG15 (zK14).size (fun j hj => (zO14.lt j hj).1)
          clear zG15 zhl15
          refine hK.out _ _ ?_ (fun hHeld2 => ?_)
          · exact HS.out _ (zK15)
          clear hK K hHeld
          have hHeld := hHeld2
          clear hHeld2
          refine wpAnyH_ready (rs := [13]) (by kernel_rfl) (by simp) ?_
          refine AllReadyH.cons rfl (fun K hK => ?_) (AllReadyH.nil)
          rw [if_pos (by kernel_rfl)]
          refine wp_append_at _ _ 24 rfl v4.heap.size 3 i0 (.int .i64 0) 1 8 Try.underlying24 hi hz0 hz1 hz3 rfl (by omega) _ _ _ rfl zO15 ⟨b, u2, none⟩ (o.ol.length - k) (xc - k) (icells (o.ol.drop k)) rfl (by simp [icells]) (fun j v hv => (hsrc2 _ (zK15)) j v hv) (icells_one _) (by unfold maxLen; omega) (by omega) (by have h3 := (zK15).size; omega) ?_
          intro zv16 zw16 zO16 zG16 zhl16
          have zK16 := (zK15).grown zG16 (zK15).size (fun j hj => (zO15.lt j hj).1)
          clear zG16 zhl16
          refine hK.out _ _ ?_ (fun hHeld2 => ?_)
          · exact HS.out _ (zK16)
          clear hK K hHeld
          have hHeld := hHeld2
          clear hHeld2
          refine wpAnyH_ready (rs := [14]) (by kernel_rfl) (by simp) ?_
          refine AllReadyH.cons rfl (fun K hK => ?_) (AllReadyH.nil)
          go_simp
          refine hK.out _ _ ?_ (fun hHeld2 => ?_)
          · exact HS.out _ (zK16)
          clear hK K hHeld
          have hHeld := hHeld2
          clear hHeld2
          refine wpAnyH_done (by kernel_rfl) ?_ _
          go_wp2
          go_meet
          case rel => exact HEQ.out _ _ zO16 (zK16)
      case rest =>
        obtain ⟨va, vc, rfl, LC, OC⟩ := hcut
        have hil : (insI id o.ol).length ≤ 1048576 := by rw [ins_len]; have := offB_len (cen_off HCN.out); omega
        obtain ⟨va', vc', e', IC⟩ := own_ints OC
        simp only [Value.slice.injEq, true_and] at e'
        obtain ⟨rfl, rfl⟩ := e'
        have p0 := kept LC (lt_of m0) m0
        have p1 := kept LC (lt_of m1) m1
        have p2 := kept LC (lt_of m2) m2
        have B4 := join_below B3 LC
        have N4 := join_below N3 LC
        clear HS HEQ hsrc1 hsrc2 r1 hkc hkz hkn2 hkc2 hnc hu2a hu2b
        have HO := specOff_val va (insI id o.ol) vc wc hil IC
        cases hof : offB (insI id o.ol)
        · have HV : Hid (revB o id = false) := rev_no1 hof
          rw [hof] at HO
          clear hof
          go_wp2_with fail
          refine HO.mono ?_
          rintro e v6 ⟨rfl, D6⟩
          have L6 := D6.below wc.heap.size
          have s0 := kept L6 (lt_of p0) p0
          have s1 := kept L6 (lt_of p1) p1
          have s2 := kept L6 (lt_of p2) p2
          have B6 := join_below B4 L6
          have N6 := join_below N4 L6
          clear D6 L6 HO
          have e0 : v6.cell? ⟨w.heap.size + 1, 0, none⟩ = some (.int .i64 0) := cell_at s1 0
          have e1 : v6.cell? ⟨w.heap.size + 1, 1, none⟩ = some (.slice none 0 0) := cell_at s1 1
          have e2 : v6.cell? ⟨w.heap.size + 1, 2, none⟩ = some (.slice none 0 0) := cell_at s1 2
          have f0 : v6.frozen? ⟨w.heap.size + 1, 0, none⟩ = false := frozen_at s1 0
          have f1 : v6.frozen? ⟨w.heap.size + 1, 1, none⟩ = false := frozen_at s1 1
          have f2 : v6.frozen? ⟨w.heap.size + 1, 2, none⟩ = false := frozen_at s1 2
          have g0 : v6.cell? ⟨v1.heap.size, 0, none⟩ = some (.int .i64 o.ve) := cell_at s2 0
          have g1 : v6.cell? ⟨v1.heap.size, 1, none⟩ = some (.slice y.a o.ol.length y.c) := cell_at s2 1
          have g2 : v6.cell? ⟨v1.heap.size, 2, none⟩ = some (.slice y.b o.sl.length y.d) := cell_at s2 2
          have HFIN : Hid (∀ W, Sw (w.heap.size + 1) v1.heap.size v6 W → Copied w.heap.size W y (revO false o id)) := fun W s => (C1.keep (P := w.heap.size + 1) (by omega) (s.keep N6 (Nat.le_refl _) (Nat.le_refl _))).lower (by omega)
          have HB : Hid (∀ W, Below w.heap.size v6 W → Below w.heap.size w W) := fun W l => (B6).trans l
          have HL : Hid (w.heap.size + 1 + 1 ≤ v1.heap.size) := by show _ ≤ _; omega
          clear s0 s1 s2 C1 B6 N6 hg hl1 hlt3 I IA IC OC LC p0 p1 p2 B4 N4 m0 m1 m2 B3 N3 hil
          go_wp2
          refine bodyPost_ret (v := .tuple #[ceV y (o), .bool false]) (by simp [results, Try.results17, go_sem, e0, e1, e2]) rfl ?_
          refine ⟨y, by rw [HV.out] <;> rfl, ?_, HYA.out, HYB.out, HB.out _ ?_⟩
          · rw [HV.out]
            refine HFIN.out _ ?_
            (repeat' (first | with_reducible exact Sw.refl _ _ _ | with_reducible apply Sw.one | with_reducible apply Sw.two))
          · (repeat' (first | apply Below.setCell | exact Below.refl _ _)) <;> first | (simp; done) | (have := HL.out; simp; omega)
        · have HV : Hid (revB o id = true) := rev_is HCN.out hof
          rw [hof] at HO
          clear hof
          go_wp2_with fail
          refine HO.mono ?_
          rintro e v6 ⟨rfl, D6⟩
          have L6 := D6.below wc.heap.size
          have s0 := kept L6 (lt_of p0) p0
          have s1 := kept L6 (lt_of p1) p1
          have s2 := kept L6 (lt_of p2) p2
          have O6 := own_below OC L6 (Nat.le_refl _)
          have B6 := join_below B4 L6
          have N6 := join_below N4 L6
          have hne : v1.heap.size ≠ w.heap.size + 1 := by omega
          have hne2 : v1.heap.size ≠ w.heap.size := by omega
          clear D6 L6 HO
          have e0 : v6.cell? ⟨w.heap.size + 1, 0, none⟩ = some (.int .i64 0) := cell_at s1 0
          have e1 : v6.cell? ⟨w.heap.size + 1, 1, none⟩ = some (.slice none 0 0) := cell_at s1 1
          have e2 : v6.cell? ⟨w.heap.size + 1, 2, none⟩ = some (.slice none 0 0) := cell_at s1 2
          have f0 : v6.frozen? ⟨w.heap.size + 1, 0, none⟩ = false := frozen_at s1 0
          have f1 : v6.frozen? ⟨w.heap.size + 1, 1, none⟩ = false := frozen_at s1 1
          have f2 : v6.frozen? ⟨w.heap.size + 1, 2, none⟩ = false := frozen_at s1 2
          have g0 : v6.cell? ⟨v1.heap.size, 0, none⟩ = some (.int .i64 o.ve) := cell_at s2 0
          have g1 : v6.cell? ⟨v1.heap.size, 1, none⟩ = some (.slice y.a o.ol.length y.c) := cell_at s2 1
          have g2 : v6.cell? ⟨v1.heap.size, 2, none⟩ = some (.slice y.b o.sl.length y.d) := cell_at s2 2
          have h0 : v6.frozen? ⟨v1.heap.size, 0, none⟩ = false := frozen_at s2 0
          have h1 : v6.frozen? ⟨v1.heap.size, 1, none⟩ = false := frozen_at s2 1
          have a0 : v6.cell? ⟨w.heap.size, 0, none⟩ = some (.int .i64 o.ve) := cell_at s0 0
          have HVA : Hid (∃ g, va = some ⟨g, 0, none⟩) := own_some O6 (by rw [ins_len]; omega)
          have HFIN : Hid (∀ W, Sw (w.heap.size + 1) v1.heap.size v6 W → Copied w.heap.size W ⟨va, vc, y.b, y.d⟩ (revO true o id)) := fun W s => ⟨own_lower (s.own O6 (by omega) (by omega)) (by omega), own_lower (own_keep (P := w.heap.size + 1) C1.seen (by omega) (s.keep N6 (Nat.le_refl _) (Nat.le_refl _))) (by omega)⟩
          have HB : Hid (∀ W, Below w.heap.size v6 W → Below w.heap.size w W) := fun W l => B6.trans l
          have HL : Hid (w.heap.size + 1 + 1 ≤ v1.heap.size) := by show _ ≤ _; omega
          clear s0 s1 s2 C1 B6 N6 hg hl1 hlt3 I IA IC OC LC p0 p1 p2 B4 N4 m0 m1 m2 B3 N3 hil O6
          go_wp2
          refine bodyPost_ret (v := .tuple #[ceV ⟨va, vc, y.b, y.d⟩ (⟨wrap64 (o.ve + 1), insI id o.ol, o.sl⟩), .bool true]) (by simp [results, Try.results17, go_sem, e0, e1, e2]) rfl ?_
          refine ⟨⟨va, vc, y.b, y.d⟩, by rw [HV.out] <;> rfl, ?_, HVA.out, HYB.out, HB.out _ ?_⟩
          · rw [HV.out]
            refine HFIN.out _ ?_
            (repeat' (first | with_reducible exact Sw.refl _ _ _ | with_reducible apply Sw.one | with_reducible apply Sw.two))
          · (repeat' (first | apply Below.setCell | exact Below.refl _ _)) <;> first | (simp; done) | (have := HL.out; simp; omega)

theorem specRev_val (x : Pl) (o : Ctr) (id : Int) (w : World) (hz : o.ol.length ≤ 1048576) (hz2 : o.sl.length ≤ 1048576) (I : In w x o) (fl : Flat x) (hcap : o.ol.length ≤ x.c) :
    Calls Try.prog 17 #[ceV x o, .int .i64 id] w fun e w' => ∃ y, e = .returned (.tuple #[ceV y (revO (revB o id) o id), .bool (revB o id)]) ∧ Copied w.heap.size w' y (revO (revB o id) o id) ∧ Below w.heap.size w w' := (specRev_flat x o id w hz hz2 I fl hcap).mono fun _ _ ⟨y, h1, h2, _, _, h3⟩ => ⟨y, h1, h2, h3⟩

end Hn
end Go.Proofs.Ytbmfhdlbbaabgaa
