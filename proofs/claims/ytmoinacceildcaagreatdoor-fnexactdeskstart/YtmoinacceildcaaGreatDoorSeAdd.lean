/- The program's add: a hold more in the map. -/
import Derived.Test.YtmoinacceildcaaGreatDoorSeMap
namespace Go.Proofs.YtmoinacceildcaaGreatDoor
namespace Se
open Go.ChangeShapes Go.WideShapes Go.ChangeAt Go.RowKit
open Pk (new_below join_below cell_at heap_new frozen_at lt_of kept heap_old Drawn info_of own_form own_below Room)
set_option linter.unusedSimpArgs false
set_option linter.unusedVariables false

open Go.ChangeMaps (setBlock)

theorem wp_append_at {P : Program} {w : World} {o : Oper} {a : Act} {K : Act → World → Prop} {Q : Exit → Act → World → Prop} (s x : Operand) (t : TypeId)
    (ho : o.op = .call { callee := .builtin .append, args := #[s, x], argTypes := #[t, t] })
    (base : Nat) (e : TypeId) (i : TypeInfo) (z : Value) (size bytes : Nat) (ht : P.underlying t = some (.slice e)) (hi : P.info? e = some i) (hz : i.zero = some z)
    (hsize : i.size = size) (hby : i.bytes = bytes) (hzs : z.cells.size = size) (hsz : 0 < size)
    (v : Value) (n : Nat) (xs : List Value) (hs : a.eval s = v) (hown : w.ownsRow base e size v n xs)
    (ad : Addr) (m c : Nat) (news : List Value) (hx : a.eval x = .slice (some ad) m c) (hl : news.length = m * size) (hnews : ∀ j u, news[j]? = some u → w.cell? (ad.add j) = some u) (h1 : ∀ u ∈ news, u.oneCell' = true)
    (h63 : n + m ≤ maxLen) (hbytes : (n + m) * bytes ≤ 140737488355328) (hbase : base ≤ w.heap.size)
    (h : ∀ v' w', w'.ownsRow base e size v' (n + m) (xs ++ news) → w.grownBy w' v.ownBlock → (v'.ownBlock = v.ownBlock ∨ v'.ownBlock = some w.heap.size) → K (a.put o.dst v') w') : o.wp P a w K Q := by
  obtain ⟨v', w', hr, h2, h3, -, h5⟩ := run_append_own_at (P := P) w base t o.type e i z size bytes ht hi hz hsize hby hzs hsz v n xs hown ad m c news hl hnews h1 h63 hbytes hbase
  unfold Oper.wp execOp
  simp only [ho, resolve, invoke, builtin, Sem.run_bind, Sem.run_pure, Result.andThen_ok, List.map_toArray, List.map_cons, List.map_nil, hs, hx, hr]
  exact h v' w' h2 h3 h5

theorem wp_look {w : World} {o : Oper} {a : Act} {K : Act → World → Prop} {Q : Exit → Act → World → Prop} (m x : Operand) (ho : o.op = .lookup 141 m x false) (mv kk v : Value) (hm : a.eval m = mv) (hx : a.eval x = kk)
    (hr : (Instr.lookup 141 mv kk false).run Tryz.prog w = .ok v w) (h : K (a.put o.dst v) w) : o.wp Tryz.prog a w K Q := by
  unfold Oper.wp
  simp [execOp, ho, hm, hx, hr, Result.andThen]
  exact h

theorem wp_upd {w w' : World} {o : Oper} {a : Act} {K : Act → World → Prop} {Q : Exit → Act → World → Prop} (m x y : Operand) (ho : o.op = .mapUpdate 141 m x y) (mv kk v : Value) (hm : a.eval m = mv) (hx : a.eval x = kk) (hy : a.eval y = v)
    (hr : (Instr.mapUpdate 141 mv kk v).run Tryz.prog w = .ok () w') (h : K (a.put o.dst undef) w') : o.wp Tryz.prog a w K Q := by
  unfold Oper.wp
  simp [execOp, ho, hm, hx, hy, hr, Result.andThen]
  exact h

theorem seven_at {w : World} {b : Nat} {p : Hl} {t : TypeId} {f : Nat × Nat} (h : w.heap[b]? = some (.cells #[.int .i64 p.tr, .int .i64 p.dy, .int .i64 p.co, .int .i64 p.se, .int .i64 p.ba, .int .i64 p.be, .int .i64 p.od] t f)) : ∀ j u, (hc1 p)[j]? = some u → w.cell? (Addr.add ⟨b, 0, none⟩ j) = some u := by
  intro j u hu
  rw [add_plain, Nat.zero_add, cell_at h, ← hu]
  simp [hc1]

theorem Bx.blk {w w1 : World} {b : Nat} {p : Hl} (h : Bx w b p) (e : w1.heap[b]? = w.heap[b]?) : Bx w1 b p := by
  unfold Bx
  rw [World.cell?_of_block (a := ⟨b, 0, none⟩) e, World.cell?_of_block (a := ⟨b, 1, none⟩) e, World.cell?_of_block (a := ⟨b, 2, none⟩) e, World.cell?_of_block (a := ⟨b, 3, none⟩) e, World.cell?_of_block (a := ⟨b, 4, none⟩) e, World.cell?_of_block (a := ⟨b, 5, none⟩) e, World.cell?_of_block (a := ⟨b, 6, none⟩) e]
  exact h

theorem Mp.add {B b : Nat} {f : Ky → List Hl} {es : Array MapEntry} {clock : Nat} {w : World} (M : Mp B b f es clock w) (p : Hl) (hk : Wf p) (hbB : b < B) (hBw : B ≤ w.heap.size) :
    ∃ v0, (∀ w1 : World, Below w.heap.size w w1 → (Instr.lookup 141 (.map (some b)) (.agg #[.int .i64 p.tr, .int .i64 p.dy, .int .i64 p.co, .int .i64 p.se]) false).run Tryz.prog w1 = .ok v0 w1) ∧ w.ownsRow B 98 7 v0 (f (key p)).length (hcells (f (key p))) ∧
      ∀ (wc w9 : World) (v' : Value), Below w.heap.size w wc → w9.ownsRow B 98 7 v' ((f (key p)).length + 1) (hcells (f (key p)) ++ hc1 p) → wc.grownBy w9 v0.ownBlock → (v'.ownBlock = v0.ownBlock ∨ v'.ownBlock = some wc.heap.size) →
        (∀ c, w.heap.size ≤ c → c < wc.heap.size → w9.heap[c]? = wc.heap[c]?) ∧ ∃ es' clock', (Instr.mapUpdate 141 (.map (some b)) (.agg #[.int .i64 p.tr, .int .i64 p.dy, .int .i64 p.co, .int .i64 p.se]) v').run Tryz.prog w9 = .ok () (setBlock w9 b (.map es' clock')) ∧ Mp B b (more f (key p) p) es' clock' (setBlock w9 b (.map es' clock')) ∧ Below b w (setBlock w9 b (.map es' clock')) ∧ ∀ c, w.heap.size ≤ c → c < wc.heap.size → (setBlock w9 b (.map es' clock')).heap[c]? = wc.heap[c]? := by
  obtain ⟨v0, h1, h2, h3⟩ := M.look (key p) hk.key
  refine ⟨v0, fun w1 L => h1 w1 (kept L (lt_of M.blk) M.blk), h2, ?_⟩
  intro wc w9 v' L O10 G hl
  have hv : ∀ g, v0.ownBlock = some g → B ≤ g ∧ g < w.heap.size := fun g hg => h2.lt g hg
  have hbc := kept L (lt_of M.blk) M.blk
  have hb9 : w9.heap[b]? = some (.map es clock) := by
    rw [G.block b (lt_of hbc) (fun h => by have := (hv b h.symm).1; omega)]
    exact hbc
  have hc9 : ∀ c, w.heap.size ≤ c → c < wc.heap.size → w9.heap[c]? = wc.heap[c]? := fun c h4 h5 => G.block c h5 (fun h => by have := (hv c h.symm).2; omega)
  have hown : w9.ownsRow B 98 7 v' (f (key p) ++ [p]).length (hcells (f (key p) ++ [p])) := by
    rw [← hcells_snoc, List.length_append]
    exact O10
  refine ⟨hc9, ?_⟩
  obtain ⟨es', clock', h4, h5⟩ := h3 w9 v' p hb9 hown (by
    obtain ⟨g, hg, -⟩ := own_some hown (by simp)
    rcases hl with h | h
    · exact Or.inl ⟨g, hg, by rw [← h]; exact hg⟩
    · exact Or.inr ⟨_, h, L.size⟩) (fun u n xs hu hne => (own_below hu L (Nat.le_refl _)).kept G (Or.inr hne))
  refine ⟨es', clock', h4, h5, ?_, ?_⟩
  · refine ⟨G.os.trans L.os, G.tape.trans L.tape, G.output.trans L.output, ?_, fun k hk => ?_⟩
    · have h6 : (setBlock w9 b (.map es' clock')).heap.size = w9.heap.size := by simp [setBlock]
      rw [h6]
      exact Nat.le_trans L.size G.size
    · show (w9.heap.setIfInBounds b _)[k]? = _
      have hkb := lt_of M.blk
      rw [(MapKept.heap_set hb9).2 k (by omega), G.block k (by have := L.size; omega) (fun h => by have := (hv k h.symm).1; omega)]
      exact L.block k (by omega)
  · intro c h6 h7
    have hkb := lt_of M.blk
    show (w9.heap.setIfInBounds b _)[c]? = _
    rw [(MapKept.heap_set hb9).2 c (by omega)]
    exact hc9 c h6 h7

set_option maxRecDepth 100000 in
set_option maxHeartbeats 4000000 in
theorem add_val (B b : Nat) (f : Ky → List Hl) (es : Array MapEntry) (clock : Nat) (p : Hl) (w : World) (hk : Wf p) (hn : (f (key p)).length ≤ 1048576) (hbB : b < B) (hBw : B ≤ w.heap.size) (M : Mp B b f es clock w) :
    Calls Tryz.prog 116 #[.map (some b), lgV p] w fun e w' => e = .returned (.tuple #[]) ∧ (∃ es' clock', Mp B b (more f (key p) p) es' clock' w') ∧ Below b w w' := by
  obtain ⟨i0, hi, hz0, hz1, hz2⟩ := info_of info_hold
  obtain ⟨v0, hl0, O0, hst0⟩ := M.add p hk hbB hBw
  have HN : Hid (_) := new_below w (.cells #[.int .i64 p.tr, .int .i64 p.dy, .int .i64 p.co, .int .i64 p.se, .int .i64 p.ba, .int .i64 p.be, .int .i64 p.od] 98)
  have HL : Hid (_) := hl0
  have HO : Hid (_) := O0
  have HST : Hid (_) := hst0
  have HB : Hid (Bx (w.alloc (.cells #[.int .i64 p.tr, .int .i64 p.dy, .int .i64 p.co, .int .i64 p.se, .int .i64 p.ba, .int .i64 p.be, .int .i64 p.od] 98)) w.heap.size p) := Bx.of (heap_new _ _)
  have hcW : w.heap.size < (w.alloc (.cells #[.int .i64 p.tr, .int .i64 p.dy, .int .i64 p.co, .int .i64 p.se, .int .i64 p.ba, .int .i64 p.be, .int .i64 p.od] 98)).heap.size := by simp
  have HK : Hid (∀ w, _) := fun w => key_val p w
  clear hl0 O0 hst0 M
  generalize hfk : (f (key p)).length = n at *
  clear hfk
  go_enter Tryz.func116, Tryz.ntmps116
  go_wp2
  generalize w.alloc (.cells #[.int .i64 p.tr, .int .i64 p.dy, .int .i64 p.co, .int .i64 p.se, .int .i64 p.ba, .int .i64 p.be, .int .i64 p.od] 98) = W at *
  refine wp_region_held_drew (S := (fun w' => Bx w' w.heap.size p)) (by kernel_rfl) ?_ (fun hHeld => ?_)
  · exact HB.out.on ((Below.refl _ _).drew) hcW
  refine wpAnyH_take (i := 0) (v := .map (some b)) rfl (by kernel_rfl) (by kernel_rfl) (by kernel_rfl) (fun _ _ _ h => h) (Or.inl ⟨by kernel_rfl, fun w hSw => by first | (go_simp; done) | (dsimp only at hSw; obtain ⟨x0, x1, x2, x3, x4, x5, x6⟩ := hSw; go_simp; done) | rfl⟩) (by assumption) ?_
  simp only [Act.put, List.getElem_toArray, List.getElem_cons_succ, List.getElem_cons_zero, List.setIfInBounds_toArray, List.set_cons_succ, List.set_cons_zero]
  refine wpAnyH_take (i := 1) (v := .agg #[.int .i64 p.tr, .int .i64 p.dy, .int .i64 p.co, .int .i64 p.se, .int .i64 p.ba, .int .i64 p.be, .int .i64 p.od]) rfl (by kernel_rfl) (by kernel_rfl) (by kernel_rfl) (fun _ _ _ h => h) (Or.inl ⟨by kernel_rfl, fun w hSw => by first | (go_simp; done) | (dsimp only at hSw; obtain ⟨x0, x1, x2, x3, x4, x5, x6⟩ := hSw; go_simp; done) | rfl⟩) (by assumption) ?_
  simp only [Act.put, List.getElem_toArray, List.getElem_cons_succ, List.getElem_cons_zero, List.setIfInBounds_toArray, List.set_cons_succ, List.set_cons_zero]
  refine wpAnyH_take (i := 3) (v := .map (some b)) rfl (by kernel_rfl) (by kernel_rfl) (by kernel_rfl) (fun _ _ _ h => h) (Or.inl ⟨by kernel_rfl, fun w hSw => by first | (go_simp; done) | (dsimp only at hSw; obtain ⟨x0, x1, x2, x3, x4, x5, x6⟩ := hSw; go_simp; done) | rfl⟩) (by assumption) ?_
  simp only [Act.put, List.getElem_toArray, List.getElem_cons_succ, List.getElem_cons_zero, List.setIfInBounds_toArray, List.set_cons_succ, List.set_cons_zero]
  refine wpAnyH_take (i := 4) (v := .agg #[.int .i64 p.tr, .int .i64 p.dy, .int .i64 p.co, .int .i64 p.se, .int .i64 p.ba, .int .i64 p.be, .int .i64 p.od]) rfl (by kernel_rfl) (by kernel_rfl) (by kernel_rfl) (fun _ _ _ h => h) (Or.inl ⟨by kernel_rfl, fun w hSw => by first | (go_simp; done) | (dsimp only at hSw; obtain ⟨x0, x1, x2, x3, x4, x5, x6⟩ := hSw; go_simp; done) | rfl⟩) (by assumption) ?_
  simp only [Act.put, List.getElem_toArray, List.getElem_cons_succ, List.getElem_cons_zero, List.setIfInBounds_toArray, List.set_cons_succ, List.set_cons_zero]
  refine wpAnyH_take (i := 7) (v := .agg #[.int .i64 p.tr, .int .i64 p.dy, .int .i64 p.co, .int .i64 p.se, .int .i64 p.ba, .int .i64 p.be, .int .i64 p.od]) rfl (by kernel_rfl) (by kernel_rfl) (by kernel_rfl) (fun _ _ _ h => h) (Or.inl ⟨by kernel_rfl, fun w hSw => by first | (go_simp; done) | (dsimp only at hSw; obtain ⟨x0, x1, x2, x3, x4, x5, x6⟩ := hSw; go_simp; done) | rfl⟩) (by assumption) ?_
  simp only [Act.put, List.getElem_toArray, List.getElem_cons_succ, List.getElem_cons_zero, List.setIfInBounds_toArray, List.set_cons_succ, List.set_cons_zero]
  have K0 : Below W.heap.size W W.drew := (Below.refl _ _).drew
  generalize W.drew = w0 at *
  refine wpAnyH_ready (rs := [2, 8]) (by kernel_rfl) (by simp) ?_
  refine AllReadyH.cons rfl (fun K hK => ?_) (AllReadyH.cons rfl (fun K hK => ?_) (AllReadyH.nil))
  · go_simp
    go_wp2_with (go_at_call 131; (with_reducible refine (HK.out _).mono ?_); rintro e w1 ⟨rfl, L1⟩)
    have K1 : Below W.heap.size W w1 := K0.trans (L1.mono K0.size)
    refine hK.out _ _ ?_ (fun hHeld2 => ?_)
    · exact HB.out.on K1 hcW
    clear hK K hHeld
    have hHeld := hHeld2
    clear hHeld2
    refine wpAnyH_ready (rs := [5, 8]) (by kernel_rfl) (by simp) ?_
    refine AllReadyH.cons rfl (fun K hK => ?_) (AllReadyH.cons rfl (fun K hK => ?_) (AllReadyH.nil))
    · go_simp
      go_wp2_with (go_at_call 131; (with_reducible refine (HK.out _).mono ?_); rintro e w2 ⟨rfl, L2⟩)
      have K2 : Below W.heap.size W w2 := K1.trans (L2.mono K1.size)
      refine hK.out _ _ ?_ (fun hHeld2 => ?_)
      · exact HB.out.on K2 hcW
      clear hK K hHeld
      have hHeld := hHeld2
      clear hHeld2
      refine wpAnyH_ready (rs := [6, 8]) (by kernel_rfl) (by simp) ?_
      refine AllReadyH.cons rfl (fun K hK => ?_) (AllReadyH.cons rfl (fun K hK => ?_) (AllReadyH.nil))
      · rw [if_pos (by kernel_rfl)]
        have hlk3 := HL.out _ (join_below HN.out K2)
        refine wp_look _ _ rfl _ _ _ rfl rfl hlk3 ?_
        try simp only [Act.put, List.getElem_toArray, List.getElem_cons_succ, List.getElem_cons_zero, List.setIfInBounds_toArray, List.set_cons_succ, List.set_cons_zero]
        refine hK.out _ _ ?_ (fun hHeld2 => ?_)
        · exact HB.out.on K2 hcW
        clear hK K hHeld
        have hHeld := hHeld2
        clear hHeld2
        refine wpAnyH_ready (rs := [8]) (by kernel_rfl) (by simp) ?_
        refine AllReadyH.cons rfl (fun K hK => ?_) (AllReadyH.nil)
        go_simp
        have K4 : Below W.heap.size W (w2.alloc (.cells #[.int .i64 p.tr, .int .i64 p.dy, .int .i64 p.co, .int .i64 p.se, .int .i64 p.ba, .int .i64 p.be, .int .i64 p.od] 98)) := K2.alloc K2.size _
        have m4 := heap_new w2 (.cells #[.int .i64 p.tr, .int .i64 p.dy, .int .i64 p.co, .int .i64 p.se, .int .i64 p.ba, .int .i64 p.be, .int .i64 p.od] 98)
        refine hK.out _ _ ?_ (fun hHeld2 => ?_)
        · exact HB.out.on K4 hcW
        clear hK K hHeld
        have hHeld := hHeld2
        clear hHeld2
        obtain ⟨ad, had⟩ : ∃ ad, w2.heap.size = ad := ⟨_, rfl⟩
        rw [had] at m4
        try rw [had]
        clear had
        generalize w2.alloc (.cells #[.int .i64 p.tr, .int .i64 p.dy, .int .i64 p.co, .int .i64 p.se, .int .i64 p.ba, .int .i64 p.be, .int .i64 p.od] 98) = w4 at *
        refine wpAnyH_ready (rs := [9]) (by kernel_rfl) (by simp) ?_
        refine AllReadyH.cons rfl (fun K hK => ?_) (AllReadyH.nil)
        rw [if_pos (by kernel_rfl)]
        have O9 := own_below HO.out (join_below HN.out K4) (Nat.le_refl _)
        refine wp_append_at _ _ 24 rfl B 98 i0 (lgV ⟨0, 0, 0, 0, 0, 0, 0⟩) 7 56 Tryz.underlying24 hi hz0 hz1 hz2 rfl (by omega) _ _ _ rfl O9 ⟨ad, 0, none⟩ 1 1 (hc1 p) rfl rfl (seven_at m4) (by simp [hc1, Value.oneCell', Value.cells]) (by unfold maxLen; omega) (by omega) (by have h2 := (HN.out).size; have h3 := (K4).size; omega) ?_
        intro v' w9 O10 G9 hl9
        obtain ⟨HC9, es', clock', hst, M', LB, HC10⟩ := HST.out _ _ _ (join_below HN.out K4) O10 G9 hl9
        clear O9 O10 G9 hl9
        have hcc : w.heap.size < w4.heap.size := Nat.lt_of_lt_of_le hcW (K4).size
        refine hK.out _ _ ?_ (fun hHeld2 => ?_)
        · exact (HB.out.on K4 hcW).blk (HC9 _ (Nat.le_refl _) hcc)
        clear hK K hHeld
        have hHeld := hHeld2
        clear hHeld2
        refine wpAnyH_ready (rs := [10]) (by kernel_rfl) (by simp) ?_
        refine AllReadyH.cons rfl (fun K hK => ?_) AllReadyH.nil
        rw [if_pos (by kernel_rfl)]
        refine wp_upd _ _ _ rfl _ _ _ rfl rfl rfl hst ?_
        refine hK.out _ _ ?_ (fun hHeld2 => ?_)
        · exact (HB.out.on K4 hcW).blk (HC10 _ (Nat.le_refl _) hcc)
        clear hK K hHeld hst HC9 HC10
        refine wpAnyH_done (by kernel_rfl) ?_ _
        go_wp2
        go_end0
        exact ⟨rfl, ⟨es', clock', M'⟩, LB⟩
      · go_simp
        have K6 : Below W.heap.size W (w2.alloc (.cells #[.int .i64 p.tr, .int .i64 p.dy, .int .i64 p.co, .int .i64 p.se, .int .i64 p.ba, .int .i64 p.be, .int .i64 p.od] 98)) := K2.alloc K2.size _
        have m6 := heap_new w2 (.cells #[.int .i64 p.tr, .int .i64 p.dy, .int .i64 p.co, .int .i64 p.se, .int .i64 p.ba, .int .i64 p.be, .int .i64 p.od] 98)
        refine hK.out _ _ ?_ (fun hHeld2 => ?_)
        · exact HB.out.on K6 hcW
        clear hK K hHeld
        have hHeld := hHeld2
        clear hHeld2
        obtain ⟨ad, had⟩ : ∃ ad, w2.heap.size = ad := ⟨_, rfl⟩
        rw [had] at m6
        try rw [had]
        clear had
        generalize w2.alloc (.cells #[.int .i64 p.tr, .int .i64 p.dy, .int .i64 p.co, .int .i64 p.se, .int .i64 p.ba, .int .i64 p.be, .int .i64 p.od] 98) = w6 at *
        refine wpAnyH_ready (rs := [6]) (by kernel_rfl) (by simp) ?_
        refine AllReadyH.cons rfl (fun K hK => ?_) (AllReadyH.nil)
        rw [if_pos (by kernel_rfl)]
        have hlk7 := HL.out _ (join_below HN.out K6)
        refine wp_look _ _ rfl _ _ _ rfl rfl hlk7 ?_
        try simp only [Act.put, List.getElem_toArray, List.getElem_cons_succ, List.getElem_cons_zero, List.setIfInBounds_toArray, List.set_cons_succ, List.set_cons_zero]
        refine hK.out _ _ ?_ (fun hHeld2 => ?_)
        · exact HB.out.on K6 hcW
        clear hK K hHeld
        have hHeld := hHeld2
        clear hHeld2
        refine wpAnyH_ready (rs := [9]) (by kernel_rfl) (by simp) ?_
        refine AllReadyH.cons rfl (fun K hK => ?_) (AllReadyH.nil)
        rw [if_pos (by kernel_rfl)]
        have O9 := own_below HO.out (join_below HN.out K6) (Nat.le_refl _)
        refine wp_append_at _ _ 24 rfl B 98 i0 (lgV ⟨0, 0, 0, 0, 0, 0, 0⟩) 7 56 Tryz.underlying24 hi hz0 hz1 hz2 rfl (by omega) _ _ _ rfl O9 ⟨ad, 0, none⟩ 1 1 (hc1 p) rfl rfl (seven_at m6) (by simp [hc1, Value.oneCell', Value.cells]) (by unfold maxLen; omega) (by omega) (by have h2 := (HN.out).size; have h3 := (K6).size; omega) ?_
        intro v' w9 O10 G9 hl9
        obtain ⟨HC9, es', clock', hst, M', LB, HC10⟩ := HST.out _ _ _ (join_below HN.out K6) O10 G9 hl9
        clear O9 O10 G9 hl9
        have hcc : w.heap.size < w6.heap.size := Nat.lt_of_lt_of_le hcW (K6).size
        refine hK.out _ _ ?_ (fun hHeld2 => ?_)
        · exact (HB.out.on K6 hcW).blk (HC9 _ (Nat.le_refl _) hcc)
        clear hK K hHeld
        have hHeld := hHeld2
        clear hHeld2
        refine wpAnyH_ready (rs := [10]) (by kernel_rfl) (by simp) ?_
        refine AllReadyH.cons rfl (fun K hK => ?_) AllReadyH.nil
        rw [if_pos (by kernel_rfl)]
        refine wp_upd _ _ _ rfl _ _ _ rfl rfl rfl hst ?_
        refine hK.out _ _ ?_ (fun hHeld2 => ?_)
        · exact (HB.out.on K6 hcW).blk (HC10 _ (Nat.le_refl _) hcc)
        clear hK K hHeld hst HC9 HC10
        refine wpAnyH_done (by kernel_rfl) ?_ _
        go_wp2
        go_end0
        exact ⟨rfl, ⟨es', clock', M'⟩, LB⟩
    · go_simp
      have K9 : Below W.heap.size W (w1.alloc (.cells #[.int .i64 p.tr, .int .i64 p.dy, .int .i64 p.co, .int .i64 p.se, .int .i64 p.ba, .int .i64 p.be, .int .i64 p.od] 98)) := K1.alloc K1.size _
      have m9 := heap_new w1 (.cells #[.int .i64 p.tr, .int .i64 p.dy, .int .i64 p.co, .int .i64 p.se, .int .i64 p.ba, .int .i64 p.be, .int .i64 p.od] 98)
      refine hK.out _ _ ?_ (fun hHeld2 => ?_)
      · exact HB.out.on K9 hcW
      clear hK K hHeld
      have hHeld := hHeld2
      clear hHeld2
      obtain ⟨ad, had⟩ : ∃ ad, w1.heap.size = ad := ⟨_, rfl⟩
      rw [had] at m9
      try rw [had]
      clear had
      generalize w1.alloc (.cells #[.int .i64 p.tr, .int .i64 p.dy, .int .i64 p.co, .int .i64 p.se, .int .i64 p.ba, .int .i64 p.be, .int .i64 p.od] 98) = w9 at *
      refine wpAnyH_ready (rs := [5]) (by kernel_rfl) (by simp) ?_
      refine AllReadyH.cons rfl (fun K hK => ?_) (AllReadyH.nil)
      go_simp
      go_wp2_with (go_at_call 131; (with_reducible refine (HK.out _).mono ?_); rintro e w10 ⟨rfl, L10⟩)
      have K10 : Below W.heap.size W w10 := K9.trans (L10.mono K9.size)
      have m10 := kept L10 (lt_of m9) m9
      refine hK.out _ _ ?_ (fun hHeld2 => ?_)
      · exact HB.out.on K10 hcW
      clear hK K hHeld
      have hHeld := hHeld2
      clear hHeld2
      refine wpAnyH_ready (rs := [6]) (by kernel_rfl) (by simp) ?_
      refine AllReadyH.cons rfl (fun K hK => ?_) (AllReadyH.nil)
      rw [if_pos (by kernel_rfl)]
      have hlk11 := HL.out _ (join_below HN.out K10)
      refine wp_look _ _ rfl _ _ _ rfl rfl hlk11 ?_
      try simp only [Act.put, List.getElem_toArray, List.getElem_cons_succ, List.getElem_cons_zero, List.setIfInBounds_toArray, List.set_cons_succ, List.set_cons_zero]
      refine hK.out _ _ ?_ (fun hHeld2 => ?_)
      · exact HB.out.on K10 hcW
      clear hK K hHeld
      have hHeld := hHeld2
      clear hHeld2
      refine wpAnyH_ready (rs := [9]) (by kernel_rfl) (by simp) ?_
      refine AllReadyH.cons rfl (fun K hK => ?_) (AllReadyH.nil)
      rw [if_pos (by kernel_rfl)]
      have O9 := own_below HO.out (join_below HN.out K10) (Nat.le_refl _)
      refine wp_append_at _ _ 24 rfl B 98 i0 (lgV ⟨0, 0, 0, 0, 0, 0, 0⟩) 7 56 Tryz.underlying24 hi hz0 hz1 hz2 rfl (by omega) _ _ _ rfl O9 ⟨ad, 0, none⟩ 1 1 (hc1 p) rfl rfl (seven_at m10) (by simp [hc1, Value.oneCell', Value.cells]) (by unfold maxLen; omega) (by omega) (by have h2 := (HN.out).size; have h3 := (K10).size; omega) ?_
      intro v' w9 O10 G9 hl9
      obtain ⟨HC9, es', clock', hst, M', LB, HC10⟩ := HST.out _ _ _ (join_below HN.out K10) O10 G9 hl9
      clear O9 O10 G9 hl9
      have hcc : w.heap.size < w10.heap.size := Nat.lt_of_lt_of_le hcW (K10).size
      refine hK.out _ _ ?_ (fun hHeld2 => ?_)
      · exact (HB.out.on K10 hcW).blk (HC9 _ (Nat.le_refl _) hcc)
      clear hK K hHeld
      have hHeld := hHeld2
      clear hHeld2
      refine wpAnyH_ready (rs := [10]) (by kernel_rfl) (by simp) ?_
      refine AllReadyH.cons rfl (fun K hK => ?_) AllReadyH.nil
      rw [if_pos (by kernel_rfl)]
      refine wp_upd _ _ _ rfl _ _ _ rfl rfl rfl hst ?_
      refine hK.out _ _ ?_ (fun hHeld2 => ?_)
      · exact (HB.out.on K10 hcW).blk (HC10 _ (Nat.le_refl _) hcc)
      clear hK K hHeld hst HC9 HC10
      refine wpAnyH_done (by kernel_rfl) ?_ _
      go_wp2
      go_end0
      exact ⟨rfl, ⟨es', clock', M'⟩, LB⟩
  · go_simp
    have K13 : Below W.heap.size W (w0.alloc (.cells #[.int .i64 p.tr, .int .i64 p.dy, .int .i64 p.co, .int .i64 p.se, .int .i64 p.ba, .int .i64 p.be, .int .i64 p.od] 98)) := K0.alloc K0.size _
    have m13 := heap_new w0 (.cells #[.int .i64 p.tr, .int .i64 p.dy, .int .i64 p.co, .int .i64 p.se, .int .i64 p.ba, .int .i64 p.be, .int .i64 p.od] 98)
    refine hK.out _ _ ?_ (fun hHeld2 => ?_)
    · exact HB.out.on K13 hcW
    clear hK K hHeld
    have hHeld := hHeld2
    clear hHeld2
    obtain ⟨ad, had⟩ : ∃ ad, w0.heap.size = ad := ⟨_, rfl⟩
    rw [had] at m13
    try rw [had]
    clear had
    generalize w0.alloc (.cells #[.int .i64 p.tr, .int .i64 p.dy, .int .i64 p.co, .int .i64 p.se, .int .i64 p.ba, .int .i64 p.be, .int .i64 p.od] 98) = w13 at *
    refine wpAnyH_ready (rs := [2]) (by kernel_rfl) (by simp) ?_
    refine AllReadyH.cons rfl (fun K hK => ?_) (AllReadyH.nil)
    go_simp
    go_wp2_with (go_at_call 131; (with_reducible refine (HK.out _).mono ?_); rintro e w14 ⟨rfl, L14⟩)
    have K14 : Below W.heap.size W w14 := K13.trans (L14.mono K13.size)
    have m14 := kept L14 (lt_of m13) m13
    refine hK.out _ _ ?_ (fun hHeld2 => ?_)
    · exact HB.out.on K14 hcW
    clear hK K hHeld
    have hHeld := hHeld2
    clear hHeld2
    refine wpAnyH_ready (rs := [5]) (by kernel_rfl) (by simp) ?_
    refine AllReadyH.cons rfl (fun K hK => ?_) (AllReadyH.nil)
    go_simp
    go_wp2_with (go_at_call 131; (with_reducible refine (HK.out _).mono ?_); rintro e w15 ⟨rfl, L15⟩)
    have K15 : Below W.heap.size W w15 := K14.trans (L15.mono K14.size)
    have m15 := kept L15 (lt_of m14) m14
    refine hK.out _ _ ?_ (fun hHeld2 => ?_)
    · exact HB.out.on K15 hcW
    clear hK K hHeld
    have hHeld := hHeld2
    clear hHeld2
    refine wpAnyH_ready (rs := [6]) (by kernel_rfl) (by simp) ?_
    refine AllReadyH.cons rfl (fun K hK => ?_) (AllReadyH.nil)
    rw [if_pos (by kernel_rfl)]
    have hlk16 := HL.out _ (join_below HN.out K15)
    refine wp_look _ _ rfl _ _ _ rfl rfl hlk16 ?_
    try simp only [Act.put, List.getElem_toArray, List.getElem_cons_succ, List.getElem_cons_zero, List.setIfInBounds_toArray, List.set_cons_succ, List.set_cons_zero]
    refine hK.out _ _ ?_ (fun hHeld2 => ?_)
    · exact HB.out.on K15 hcW
    clear hK K hHeld
    have hHeld := hHeld2
    clear hHeld2
    refine wpAnyH_ready (rs := [9]) (by kernel_rfl) (by simp) ?_
    refine AllReadyH.cons rfl (fun K hK => ?_) (AllReadyH.nil)
    rw [if_pos (by kernel_rfl)]
    have O9 := own_below HO.out (join_below HN.out K15) (Nat.le_refl _)
    refine wp_append_at _ _ 24 rfl B 98 i0 (lgV ⟨0, 0, 0, 0, 0, 0, 0⟩) 7 56 Tryz.underlying24 hi hz0 hz1 hz2 rfl (by omega) _ _ _ rfl O9 ⟨ad, 0, none⟩ 1 1 (hc1 p) rfl rfl (seven_at m15) (by simp [hc1, Value.oneCell', Value.cells]) (by unfold maxLen; omega) (by omega) (by have h2 := (HN.out).size; have h3 := (K15).size; omega) ?_
    intro v' w9 O10 G9 hl9
    obtain ⟨HC9, es', clock', hst, M', LB, HC10⟩ := HST.out _ _ _ (join_below HN.out K15) O10 G9 hl9
    clear O9 O10 G9 hl9
    have hcc : w.heap.size < w15.heap.size := Nat.lt_of_lt_of_le hcW (K15).size
    refine hK.out _ _ ?_ (fun hHeld2 => ?_)
    · exact (HB.out.on K15 hcW).blk (HC9 _ (Nat.le_refl _) hcc)
    clear hK K hHeld
    have hHeld := hHeld2
    clear hHeld2
    refine wpAnyH_ready (rs := [10]) (by kernel_rfl) (by simp) ?_
    refine AllReadyH.cons rfl (fun K hK => ?_) AllReadyH.nil
    rw [if_pos (by kernel_rfl)]
    refine wp_upd _ _ _ rfl _ _ _ rfl rfl rfl hst ?_
    refine hK.out _ _ ?_ (fun hHeld2 => ?_)
    · exact (HB.out.on K15 hcW).blk (HC10 _ (Nat.le_refl _) hcc)
    clear hK K hHeld hst HC9 HC10
    refine wpAnyH_done (by kernel_rfl) ?_ _
    go_wp2
    go_end0
    exact ⟨rfl, ⟨es', clock', M'⟩, LB⟩


end Se
end Go.Proofs.YtmoinacceildcaaGreatDoor
