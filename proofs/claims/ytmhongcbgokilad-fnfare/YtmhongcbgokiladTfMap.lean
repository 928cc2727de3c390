/- Maps by a station, as the program keeps them: its open ways, and the stations that it has gone on from. -/
import Derived.Test.YtmhongcbgokiladTfOver
import Derived.Maps.RangeWalk
namespace Go.Proofs.Ytmhongcbgokilad
namespace Tf
open Go.ChangeShapes Go.WideShapes Go.ChangeAt Go.RowKit
open Go.ChangeMaps (setBlock)
open Go.WideElems (Fit rd rg rd_key rg_of)
open Go.Maps (Keyed)
open Pk (new_below join_below cell_at heap_new frozen_at lt_of kept heap_old Drawn info_of)
set_option linter.unusedSimpArgs false
set_option linter.unusedVariables false
variable {bs : Nat}

/-- An element reads as itself. -/
def hld (v : Value) : Option (DataW Value × List MemPlace) := some (.held v, [])

theorem klaw : Keyed Try.prog 3 := Maps.int_keyed Try.underlying3

abbrev kk (k : Int) : Lit := .int .i64 k

theorem kk_of {k : Int} (h : (kk k).wf = true) : keyOf Try.prog 3 (.int .i64 k) = some (kk k) := Maps.keyOf_int_mk Try.underlying3 h

theorem kk_lit {k : Int} (h : (kk k).wf = true) : WideAt.IsKeyLit (kk k) := klaw.key (kk_of h)

theorem kk_ne {a b : Int} (h : a ≠ b) : kk a ≠ kk b := by
  intro e
  cases e
  exact h rfl

theorem kk_wf {k : Int} (h : 1 ≤ k ∧ k ≤ 9999) : (kk k).wf = true := WalkArith.wf_i64 (by omega)

/-- The keys of such a map are numbers. -/
theorem own_keys {w : World} {b n : Nat} {D : DataW Value} (h : w.ownsMap Try.prog 3 hld b n D) {kl : Lit} (hk : Maps.has D kl = true) : ∃ k, kl = kk k ∧ (kk k).wf = true := by
  obtain ⟨es, clock, _, F, _, rfl⟩ := h
  obtain ⟨p, hp, hpk⟩ := List.any_eq_true.1 hk
  obtain ⟨x, hx, rfl⟩ := List.mem_map.1 (mem_sorted.1 hp)
  obtain ⟨y, hy⟩ := F.reads x hx
  obtain ⟨k, -, e, hw⟩ := Maps.keyOf_int_inv Try.underlying3 (rd_key hy)
  rw [rg_of hy] at hpk
  exact ⟨k, (WideAt.sameKey_eq hpk).symm.trans e, hw⟩

theorem own_on {w w1 : World} {b n B : Nat} {D : DataW Value} (h : w.ownsMap Try.prog 3 hld b n D) (L : Below B w w1) (hb : b < B) : w1.ownsMap Try.prog 3 hld b n D := by
  obtain ⟨es, clock, hh, r⟩ := h
  exact ⟨es, clock, (L.block b hb).trans hh, r⟩

theorem own_ge {w w1 : World} {b n : Nat} {row : Option Nat} {D : DataW Value} (h : w.ownsMap Try.prog 3 hld b n D) (hg : w.grownBy w1 row) (hb : some b ≠ row) : w1.ownsMap Try.prog 3 hld b n D := h.kept hg hb

/-- A way is no map: what writes a map leaves it. -/
theorem Wv.off {w w1 : World} {v : Value} {o : Wy} {b : Nat} {es : Array MapEntry} {c : Nat} (h : Wv bs w v o) (hb : w.heap[b]? = some (.map es c)) (hg : w.grownBy w1 (some b)) : Wv bs w1 v o := by
  obtain ⟨g, cap, rfl, hlt, hn, hc⟩ := h
  have hne : g ≠ b := by
    intro e
    subst e
    have := hc 0 hn
    unfold World.cell? at this
    rw [hb] at this
    simp at this
  refine ⟨g, cap, rfl, hlt.of_block hg.size (hg.block g hlt.2.1 (by simpa using hne)), hn, fun i hi => ?_⟩
  rw [World.cell?_of_block (a := ⟨g, i, none⟩) (hg.block g hlt.2.1 (by simpa using hne))]
  exact hc i hi

/-- What the map of open ways reads as. -/
def Fct (bs : Nat) (w : World) (D : DataW Value) (F : Int → Option Wy) : Prop := ∀ k, (kk k).wf = true → (F k = none → Maps.has D (kk k) = false) ∧ ∀ o, F k = some o → Maps.has D (kk k) = true ∧ ∃ v, (∀ z, D.atKey (kk k) z = .held v) ∧ Wv bs w v o

/-- The open ways. -/
def Opn (bs : Nat) (w : World) (b n : Nat) (F : Int → Option Wy) : Prop := ∃ D, w.ownsMap Try.prog 3 hld b n D ∧ Fct bs w D F

/-- The stations that the search has gone on from. -/
def Gn (w : World) (b n : Nat) (G : Int → Option Wy) : Prop := ∃ D, w.ownsMap Try.prog 3 hld b n D ∧ ∀ k, (kk k).wf = true → Maps.has D (kk k) = (G k).isSome

def setF (F : Int → Option Wy) (k : Int) (o : Option Wy) : Int → Option Wy := fun j => if j = k then o else F j

theorem Opn.lt {w : World} {b n : Nat} {F : Int → Option Wy} (h : Opn bs w b n F) : b < w.heap.size := by obtain ⟨D, h, -⟩ := h; exact h.lt
theorem Gn.lt {w : World} {b n : Nat} {G : Int → Option Wy} (h : Gn w b n G) : b < w.heap.size := by obtain ⟨D, h, -⟩ := h; exact h.lt

theorem Fct.on {w w1 : World} {D : DataW Value} {F : Int → Option Wy} (h : Fct bs w D F) (L : Below w.heap.size w w1) : Fct bs w1 D F := fun k hk => ⟨(h k hk).1, fun o ho => ⟨((h k hk).2 o ho).1, by
  obtain ⟨v, h1, h2⟩ := ((h k hk).2 o ho).2
  exact ⟨v, h1, h2.on L⟩⟩⟩

theorem Fct.off {w w1 : World} {D : DataW Value} {F : Int → Option Wy} {b : Nat} {es : Array MapEntry} {c : Nat} (h : Fct bs w D F) (hb : w.heap[b]? = some (.map es c)) (hg : w.grownBy w1 (some b)) : Fct bs w1 D F := fun k hk => ⟨(h k hk).1, fun o ho => ⟨((h k hk).2 o ho).1, by
  obtain ⟨v, h1, h2⟩ := ((h k hk).2 o ho).2
  exact ⟨v, h1, h2.off hb hg⟩⟩⟩

theorem Opn.on {w w1 : World} {b n : Nat} {F : Int → Option Wy} (h : Opn bs w b n F) (L : Below w.heap.size w w1) : Opn bs w1 b n F := by
  obtain ⟨D, h1, h2⟩ := h
  exact ⟨D, own_on h1 L h1.lt, h2.on L⟩

theorem Gn.on {w w1 : World} {b n : Nat} {G : Int → Option Wy} (h : Gn w b n G) (L : Below w.heap.size w w1) : Gn w1 b n G := by
  obtain ⟨D, h1, h2⟩ := h
  exact ⟨D, own_on h1 L h1.lt, h2⟩

theorem Opn.isMap {w : World} {b n : Nat} {F : Int → Option Wy} (h : Opn bs w b n F) : ∃ es c, w.heap[b]? = some (.map es c) := by
  obtain ⟨D, ⟨es, c, h, -⟩, -⟩ := h
  exact ⟨es, c, h⟩

theorem Gn.isMap {w : World} {b n : Nat} {F : Int → Option Wy} (h : Gn w b n F) : ∃ es c, w.heap[b]? = some (.map es c) := by
  obtain ⟨D, ⟨es, c, h, -⟩, -⟩ := h
  exact ⟨es, c, h⟩

theorem Opn.off {w w1 : World} {b b' n : Nat} {F : Int → Option Wy} (h : Opn bs w b n F) (hm : ∃ es c, w.heap[b']? = some (.map es c)) (hg : w.grownBy w1 (some b')) (hne : b ≠ b') : Opn bs w1 b n F := by
  obtain ⟨D, h1, h2⟩ := h
  obtain ⟨es, c, hm⟩ := hm
  exact ⟨D, h1.kept hg (by simpa using hne), h2.off hm hg⟩

theorem Gn.off {w w1 : World} {b b' n : Nat} {F : Int → Option Wy} (h : Gn w b n F) (hg : w.grownBy w1 (some b')) (hne : b ≠ b') : Gn w1 b n F := by
  obtain ⟨D, h1, h2⟩ := h
  exact ⟨D, h1.kept hg (by simpa using hne), h2⟩

theorem zeroW (w : World) : (zeroValue 103).run Try.prog w = .ok (.agg #[.int .i64 0, .slice none 0 0]) w := by kernel_rfl
theorem zeroI (w : World) : (zeroValue 3).run Try.prog w = .ok (.int .i64 0) w := by kernel_rfl

section
variable {o : Oper} {a : Act} {K : Act → World → Prop} {Q : Exit → Act → World → Prop} {w : World}

theorem wp_look_none (m x : Operand) (ho : o.op = .lookup 139 m x true) (b n : Nat) (F : Int → Option Wy) (hm : a.eval m = .map (some b)) (I : Opn bs w b n F) (k : Int) (hw : (kk k).wf = true) (hx : a.eval x = .int .i64 k) (hF : F k = none)
    (h : K (a.put o.dst (.tuple #[.agg #[.int .i64 0, .slice none 0 0], .bool false])) w) : o.wp Try.prog a w K Q := by
  obtain ⟨D, h1, h2⟩ := I
  obtain ⟨v, ps, hrun, hv⟩ := h1.look_ok klaw Try.underlying139 (zeroW w) (zd := .held (.agg #[.int .i64 0, .slice none 0 0])) (zp := []) rfl (kk_of hw)
  have hn := (h2 k hw).1 hF
  rw [Maps.atKey_of_not_has hn] at hv
  rw [hn] at hrun
  obtain rfl : v = .agg #[.int .i64 0, .slice none 0 0] := by
    simp only [hld, Option.some.injEq, Prod.mk.injEq, DataW.held.injEq] at hv
    exact hv.1
  unfold Oper.wp
  simp [execOp, ho, hm, hx, hrun, Result.andThen]
  exact h

theorem wp_look_some (m x : Operand) (ho : o.op = .lookup 139 m x true) (b n : Nat) (F : Int → Option Wy) (hm : a.eval m = .map (some b)) (I : Opn bs w b n F) (k : Int) (hw : (kk k).wf = true) (hx : a.eval x = .int .i64 k) (p : Wy) (hF : F k = some p)
    (h : ∀ g cap, Wv bs w (.agg #[.int .i64 p.c, .slice (some ⟨g, 0, none⟩) p.s.length cap]) p → K (a.put o.dst (.tuple #[.agg #[.int .i64 p.c, .slice (some ⟨g, 0, none⟩) p.s.length cap], .bool true])) w) : o.wp Try.prog a w K Q := by
  obtain ⟨D, h1, h2⟩ := I
  obtain ⟨v, ps, hrun, hv⟩ := h1.look_ok klaw Try.underlying139 (zeroW w) (zd := .held (.agg #[.int .i64 0, .slice none 0 0])) (zp := []) rfl (kk_of hw)
  obtain ⟨hn, v', h3, h4⟩ := (h2 k hw).2 p hF
  rw [h3] at hv
  rw [hn] at hrun
  obtain rfl : v = v' := by
    simp only [hld, Option.some.injEq, Prod.mk.injEq, DataW.held.injEq] at hv
    exact hv.1
  obtain ⟨g, cap, rfl, h5⟩ := h4
  unfold Oper.wp
  simp [execOp, ho, hm, hx, hrun, Result.andThen]
  exact h g cap ⟨g, cap, rfl, h5⟩

theorem wp_look_gone (m x : Operand) (ho : o.op = .lookup 126 m x true) (b n : Nat) (G : Int → Option Wy) (hm : a.eval m = .map (some b)) (I : Gn w b n G) (k : Int) (hw : (kk k).wf = true) (hx : a.eval x = .int .i64 k)
    (h : ∀ v, K (a.put o.dst (.tuple #[v, .bool (G k).isSome])) w) : o.wp Try.prog a w K Q := by
  obtain ⟨D, h1, h2⟩ := I
  obtain ⟨v, ps, hrun, hv⟩ := h1.look_ok klaw Try.underlying126 (zeroI w) (zd := .held (.int .i64 0)) (zp := []) rfl (kk_of hw)
  rw [h2 k hw] at hrun
  unfold Oper.wp
  simp [execOp, ho, hm, hx, hrun, Result.andThen]
  exact h v

theorem wp_store_gone (m x v : Operand) (ho : o.op = .mapUpdate 126 m x v) (b n : Nat) (G : Int → Option Wy) (hm : a.eval m = .map (some b)) (I : Gn w b n G) (hn : n < maxLen) (k : Int) (hw : (kk k).wf = true) (hx : a.eval x = .int .i64 k) (u : Value) (hv : a.eval v = u) (p : Wy)
    (h : ∀ w', Gn w' b (n + 1) (setG G k p) → w.grownBy w' (some b) → K (a.put o.dst undef) w') : o.wp Try.prog a w K Q := by
  obtain ⟨D, h1, h2⟩ := I
  obtain ⟨w', hrun, r1, r2⟩ := h1.update klaw Try.underlying126 hn (kk_of hw) (val := u) (d := .held u) (ps := []) rfl
  unfold Oper.wp
  simp [execOp, ho, hm, hx, hv, hrun, Result.andThen]
  refine h w' ⟨_, r1, fun j hj => ?_⟩ r2
  by_cases e : j = k
  · subst e
    rw [Maps.has_put_same h1.isMap (kk_lit hj), setG_same]
    rfl
  · rw [Maps.has_put_other (kk_ne e), setG_other G p e]
    exact h2 j hj

theorem wp_store_open (m x v : Operand) (ho : o.op = .mapUpdate 139 m x v) (b n : Nat) (F : Int → Option Wy) (hm : a.eval m = .map (some b)) (I : Opn bs w b n F) (hn : n < maxLen) (k : Int) (hw : (kk k).wf = true) (hx : a.eval x = .int .i64 k) (u : Value) (hv : a.eval v = u) (p : Wy) (hu : Wv bs w u p)
    (h : ∀ w', Opn bs w' b (n + 1) (setF F k (some p)) → w.grownBy w' (some b) → K (a.put o.dst undef) w') : o.wp Try.prog a w K Q := by
  obtain ⟨D, h1, h2⟩ := I
  obtain ⟨w', hrun, r1, r2⟩ := h1.update klaw Try.underlying139 hn (kk_of hw) (val := u) (d := .held u) (ps := []) rfl
  unfold Oper.wp
  simp [execOp, ho, hm, hx, hv, hrun, Result.andThen]
  have hmap := h1.isMap
  obtain ⟨es, c, hb, -⟩ := h1
  refine h w' ⟨_, r1, fun j hj => ?_⟩ r2
  by_cases e : j = k
  · subst e
    refine ⟨fun h => by simp [setF] at h, fun q hq => ?_⟩
    simp [setF] at hq
    subst hq
    exact ⟨Maps.has_put_same hmap (kk_lit hj) _, u, fun z => Maps.atKey_put_same hmap (kk_lit hj) _ z, hu.off hb r2⟩
  · simp only [setF, if_neg e]
    rw [Maps.has_put_other (kk_ne e)]
    refine ⟨(h2 j hj).1, fun q hq => ?_⟩
    obtain ⟨h3, v', h4, h5⟩ := (h2 j hj).2 q hq
    exact ⟨h3, v', fun z => by rw [Maps.atKey_put_other (kk_ne e)]; exact h4 z, h5.off hb r2⟩

theorem wp_del_open (m x : Operand) (ho : o.op = Op.call { callee := Callee.builtin Builtin.delete, args := #[m, x], argTypes := #[139, 3] }) (b n : Nat) (F : Int → Option Wy) (hm : a.eval m = .map (some b)) (I : Opn bs w b n F) (k : Int) (hw : (kk k).wf = true) (hx : a.eval x = .int .i64 k)
    (h : ∀ w', Opn bs w' b n (setF F k none) → w.grownBy w' (some b) → K (a.put o.dst (.tuple #[])) w') : o.wp Try.prog a w K Q := by
  obtain ⟨D, h1, h2⟩ := I
  obtain ⟨w', hrun, r1, r2⟩ := h1.drop klaw Try.underlying139 (kk_of hw) o.type
  unfold Oper.wp
  simp [execOp, ho, resolve, invoke, builtin, hm, hx, hrun, Result.andThen]
  obtain ⟨es, c, hb, -⟩ := h1
  refine h w' ⟨_, r1, fun j hj => ?_⟩ r2.grown
  by_cases e : j = k
  · subst e
    exact ⟨fun _ => Maps.has_del_same, fun q hq => by simp [setF] at hq⟩
  · simp only [setF, if_neg e]
    rw [Maps.has_del_other (kk_ne e)]
    refine ⟨(h2 j hj).1, fun q hq => ?_⟩
    obtain ⟨h3, v', h4, h5⟩ := (h2 j hj).2 q hq
    exact ⟨h3, v', fun z => by rw [Maps.atKey_del_other (kk_ne e)]; exact h4 z, h5.off hb r2.grown⟩

theorem wp_len_open (m : Operand) (ho : o.op = Op.call { callee := Callee.builtin Builtin.len, args := #[m], argTypes := #[139] }) (b n : Nat) (F : Int → Option Wy) (hm : a.eval m = .map (some b)) (I : Opn bs w b n F)
    (h : ∀ c : Nat, (c = 0 → ∀ k, (kk k).wf = true → F k = none) → ((∀ k, (kk k).wf = true → F k = none) → c = 0) → K (a.put o.dst (.int .i64 c)) w) : o.wp Try.prog a w K Q := by
  obtain ⟨D, h1, h2⟩ := I
  have hr := h1.len Try.underlying139 o.type
  unfold Oper.wp
  simp [execOp, ho, resolve, invoke, builtin, hm, hr, Result.andThen]
  refine h _ (fun h0 k hk => ?_) (fun h0 => ?_)
  · cases hF : F k
    · rfl
    · obtain ⟨h3, -⟩ := (h2 k hk).2 _ hF
      obtain ⟨es, rfl⟩ := h1.isMap
      have e0 : es = [] := List.eq_nil_of_length_eq_zero h0
      subst e0
      cases h3
  · obtain ⟨es, rfl⟩ := h1.isMap
    cases es with
    | nil => rfl
    | cons p r =>
      obtain ⟨es2, e2, -, hkl⟩ := h1.entries klaw
      have h4 : Maps.has (DataW.map (p :: r)) p.1 = true := by
        rw [Maps.has_eq]
        cases e2
        simp [WideAt.sameKey_self (hkl p (by simp))]
      obtain ⟨k, e3, hw⟩ := own_keys h1 h4
      rw [e3, (h2 k hw).1 (h0 k hw)] at h4
      cases h4

theorem wp_clear_open (m : Operand) (ho : o.op = Op.call { callee := Callee.builtin Builtin.clear, args := #[m], argTypes := #[139] }) (b n : Nat) (F : Int → Option Wy) (hm : a.eval m = .map (some b)) (I : Opn bs w b n F)
    (h : ∀ w', Opn bs w' b n (fun _ => none) → w.grownBy w' (some b) → K (a.put o.dst (.tuple #[])) w') : o.wp Try.prog a w K Q := by
  obtain ⟨D, ⟨es, c, hb, hF, hn, rfl⟩, h2⟩ := I
  have hst := ChangeMaps.heap_setBlock_same hb (.map #[] c)
  unfold Oper.wp
  simp [execOp, ho, resolve, invoke, builtin, hm, Builtin.clear_, run_underlying Try.underlying139, MapKept.run_getObj_map hb, MapKept.run_setObj_map _ hb, Result.andThen]
  refine h (setBlock w b (.map #[] c)) ⟨.map [], ⟨#[], c, hst, ⟨by simp, MapKept.stamped_empty c, by simp⟩, by simp, rfl⟩, fun k hk => ⟨fun _ => rfl, fun q hq => by cases hq⟩⟩ ⟨rfl, rfl, rfl, by simp [setBlock], fun i _ hi => ChangeMaps.heap_setBlock_other hb _ (fun e => hi (by rw [e]))⟩

end

end Tf
end Go.Proofs.Ytmhongcbgokilad
