/- A range over the map of hops; whether a hop comes in time. -/
import Derived.Test.YtfoccmhmgdengaaEaPhi
import Derived.Test.YtfoccmhmgdengaaTnHop3
namespace Go.Proofs.Ytfoccmhmgdengaa
namespace Rd
open Go.ChangeShapes Go.WideShapes Go.ChangeAt Go.RowKit
open Pk (new_below join_below cell_at heap_new frozen_at lt_of kept heap_old info_of)
open Em (hld kk kk_of kk_lit keyLaw WfI Mi)
set_option linter.unusedSimpArgs false
set_option linter.unusedVariables false

/-- Whether a hop comes in time. -/
def inT (L : Int → Option Int) (h : Hp) : Bool := (L h.r.to).isSome && decide (h.z + 3 ≤ (L h.r.to).getD 0)

theorem inT_iff (L : Int → Option Int) (h : Hp) : inT L h = true ↔ ∃ t, L h.r.to = some t ∧ h.z + 3 ≤ t := by
  unfold inT
  cases L h.r.to <;> simp

abbrev hpV (h : Hp) : Value := .agg #[.int .i64 h.r.tr, .int .i64 h.r.dy, .int .i64 h.r.fr, .int .i64 h.r.to, .int .i64 h.d, .int .i64 h.z]
abbrev hpO (h : Hp) : Obj := .cells #[.int .i64 h.r.tr, .int .i64 h.r.dy, .int .i64 h.r.fr, .int .i64 h.r.to, .int .i64 h.d, .int .i64 h.z] 76

set_option maxHeartbeats 1000000 in
theorem inTime_val (h : Hp) (ub n : Nat) (L : Int → Option Int) (w : World) (I : Mi w ub n L) (hw : WfI h.r.to) (h1 : 0 ≤ h.z) (h2 : h.z ≤ 200000000) :
    Calls Try.prog 74 #[hpV h, .map (some ub)] w fun e w' => e = .returned (.bool (inT L h)) ∧ Below w.heap.size w w' := by
  have NX := new_below w (hpO h)
  have x2 := heap_new w (hpO h)
  have lk := (I.on (NX.block _ I.lt)).look2 hw
  have HRD : Hid (∀ W : World, _) := fun W => Tn.ready_val h.r h.d h.z W h1 h2
  have HIT : Hid (inT L h = ((L h.r.to).isSome && decide (h.z + 3 ≤ (L h.r.to).getD 0))) := rfl
  obtain ⟨x, hx⟩ : ∃ x, (L h.r.to).getD 0 = x := ⟨_, rfl⟩
  obtain ⟨b, hb⟩ : ∃ x, (L h.r.to).isSome = x := ⟨_, rfl⟩
  rw [hx, hb] at lk HIT
  have z0 : (w.alloc (hpO h)).cell? ⟨w.heap.size, 0, none⟩ = some (.int .i64 h.r.tr) := cell_at x2 0
  have z1 : (w.alloc (hpO h)).cell? ⟨w.heap.size, 1, none⟩ = some (.int .i64 h.r.dy) := cell_at x2 1
  have z2 : (w.alloc (hpO h)).cell? ⟨w.heap.size, 2, none⟩ = some (.int .i64 h.r.fr) := cell_at x2 2
  have z3 : (w.alloc (hpO h)).cell? ⟨w.heap.size, 3, none⟩ = some (.int .i64 h.r.to) := cell_at x2 3
  have z4 : (w.alloc (hpO h)).cell? ⟨w.heap.size, 4, none⟩ = some (.int .i64 h.d) := cell_at x2 4
  have z5 : (w.alloc (hpO h)).cell? ⟨w.heap.size, 5, none⟩ = some (.int .i64 h.z) := cell_at x2 5
  have HN : Hid (_) := NX
  clear x2 I NX hx hb h1 h2 hw
  cases b
  · go_enter Try.func74, Try.ntmps74
    go_wp2
    go_ret
    exact ⟨by rw [HIT.out]; rfl, HN.out⟩
  · go_enter Try.func74, Try.ntmps74
    go_wp2_with fail
    refine (HRD.out _).mono ?_
    rintro e w1 ⟨rfl, L1⟩
    have LL := join_below HN.out L1
    clear z0 z1 z2 z3 z4 z5 lk L1
    go_wp2
    go_ret
    exact ⟨by rw [HIT.out]; rfl, LL⟩

/-- What the map of hops reads as. -/
def FctH (w0 : World) (D : DataW Value) (H : List Hp) : Prop := ∀ k, WfI k → (hopsAt H k ≠ [] → Maps.has D (kk k) = true) ∧ ∃ a c, (∀ q, q = D.atKey (kk k) (.held (.slice none 0 0)) → q = .held (.slice a (hopsAt H k).length c)) ∧ Hops w0 a (hopsAt H k)

theorem mp_owns {B b : Nat} {H : List Hp} {es : Array MapEntry} {clock : Nat} {w : World} (M : Em.Mp B b (hopsAt H) es clock w) (hn : es.size ≤ maxLen) : ∃ D, w.ownsMap Try.prog 3 hld b es.size D ∧ FctH w D H := by
  have hr : ∀ x ∈ es.toList, ∃ k, WfI k ∧ x.key = .int .i64 k ∧ WideElems.rd Try.prog 3 hld x = some (kk k, .held x.val) := fun x hx => by
    obtain ⟨k, hw, e⟩ := M.keys x hx
    refine ⟨k, hw, e, ?_⟩
    unfold WideElems.rd
    rw [e, kk_of hw]
    rfl
  have F : WideElems.Fit Try.prog 3 hld es clock := ⟨hn, M.st, fun x hx => by obtain ⟨k, -, -, h⟩ := hr x hx; exact ⟨_, h⟩⟩
  have O : w.ownsMap Try.prog 3 hld b es.size (.map ((es.toList.map (WideElems.rg Try.prog 3 hld)).foldr DataW.insert [])) := ⟨es, clock, M.blk, F, Nat.le_refl _, rfl⟩
  refine ⟨_, O, fun k hk => ⟨fun hne => ?_, ?_⟩⟩
  · obtain ⟨x, hx, e⟩ := M.has k hne
    obtain ⟨k', hw', e', h⟩ := hr x hx
    have ek : k = k' := Em.ky_inj (e.symm.trans e')
    subst ek
    refine List.any_eq_true.2 ⟨WideElems.rg Try.prog 3 hld x, mem_sorted.2 (List.mem_map.2 ⟨x, hx, rfl⟩), ?_⟩
    rw [WideElems.rg_of h]
    exact WideAt.sameKey_self (kk_lit hk)
  · obtain ⟨a, c, h1, h2⟩ := hops_look M hk
    obtain ⟨v, ps, hrun, hv⟩ := O.lookup keyLaw Try.underlying62 (Em.zero_holds w) (zd := .held (.slice none 0 0)) (zp := []) rfl (kk_of hk)
    refine ⟨a, c, fun q hq => ?_, h2⟩
    rw [h1 w (Below.refl _ _)] at hrun
    simp only [Result.ok.injEq, and_true] at hrun
    subst hrun
    simp only [hld, Option.some.injEq, Prod.mk.injEq] at hv
    rw [hq, ← hv.1]

/-- There are no more stations than hops. -/
theorem mp_size {B b : Nat} {H : List Hp} {es : Array MapEntry} {clock : Nat} {w : World} (M : Em.Mp B b (hopsAt H) es clock w) : es.size ≤ H.length := by
  have h1 : es.toList.map (·.key) ⊆ H.map fun h => Value.int .i64 h.r.fr := fun v hv => by
    obtain ⟨x, hx, rfl⟩ := List.mem_map.1 hv
    obtain ⟨k, hw, e⟩ := M.keys x hx
    have hne := (M.rows x hx k e).1
    obtain ⟨h, hh⟩ := List.exists_mem_of_ne_nil _ hne
    obtain ⟨h3, h4⟩ := hopsAt_iff.1 hh
    exact List.mem_map.2 ⟨h, h3, by rw [e, h4]⟩
  have h2 : (es.toList.map (·.key)).Nodup := M.st.2.2
  have key : ∀ (l m : List Value), l.Nodup → l ⊆ m → l.length ≤ m.length := by
    intro l
    induction l with
    | nil => intro m _ _; simp
    | cons x l ih =>
      intro m hn hs
      obtain ⟨n1, n2⟩ := List.nodup_cons.1 hn
      obtain ⟨m1, m2, rfl⟩ := List.append_of_mem (hs List.mem_cons_self)
      have := ih (m1 ++ m2) n2 (fun y hy => by
        have hy2 := hs (List.mem_cons_of_mem _ hy)
        rw [List.mem_append, List.mem_cons] at hy2
        rw [List.mem_append]
        rcases hy2 with h | rfl | h
        · exact Or.inl h
        · exact absurd hy n1
        · exact Or.inr h)
      simp only [List.length_append, List.length_cons] at this ⊢
      omega
  have := key _ _ h2 h1
  simpa using this

theorem rangesH_has {w : World} {b r n cnt : Nat} {D : DataW Value} {left : Lit → Bool} (h : w.ranges Try.prog 3 hld b r n D left cnt) {kl : Lit} (hk : left kl = true) : Maps.has D kl = true := by
  obtain ⟨es, clock, since, seen, c0, hb, F, hs, rfl, hr, hold, hc, hl1, hl2, -⟩ := h
  obtain ⟨x, hx, rfl⟩ := hl2 kl hk
  obtain ⟨y, hy⟩ := F.reads x hx
  exact List.any_eq_true.2 ⟨WideElems.rg Try.prog 3 hld x, mem_sorted.2 (List.mem_map.2 ⟨x, hx, rfl⟩), WideAt.sameKey_self (by rw [WideElems.rg_of hy]; exact keyLaw.key (WideElems.rd_key hy))⟩

theorem wp_next_hops {o : Oper} {a : Act} {K : Act → World → Prop} {Q : Exit → Act → World → Prop} {w w0 : World} (it : Operand) (ho : o.op = Op.next it false) (b r n cnt : Nat) (D : DataW Value) (left : Lit → Bool) (H : List Hp)
    (hit : a.eval it = .pointer (some ⟨r, 0, none⟩)) (h : w.ranges Try.prog 3 hld b r n D left cnt) (hF : FctH w0 D H)
    (hDone : (∀ kl, left kl = false) → K (a.put o.dst (.tuple #[.bool false])) w)
    (hMore : ∀ k ha hc w' cnt', WfI k → left (kk k) = true → w'.ranges Try.prog 3 hld b r n D (fun z => left z && !z.sameKey (kk k)) cnt' → cnt' < cnt → w.grownBy w' (some r) → w'.heap.size = w.heap.size →
      (Instr.entry (.pointer (some ⟨r, 0, none⟩))).run Try.prog w' = .ok (.tuple #[.int .i64 k, .slice ha (hopsAt H k).length hc]) w' → Hops w0 ha (hopsAt H k) →
      K (a.put o.dst (.tuple #[.bool true, .int .i64 k, .slice ha (hopsAt H k).length hc])) w') : o.wp Try.prog a w K Q := by
  unfold Oper.wp
  rcases h.next keyLaw o.type with ⟨h0, hl, hrun⟩ | ⟨key, v, kl, y, w', cnt', hkey, hlk, hv, hat, hrun, hrg, hlt, hgr, hsz, hen⟩
  · simp [execOp, ho, hit, hrun, Result.andThen]
    exact hDone hl
  · obtain ⟨k, rfl, rfl, hw⟩ := Maps.keyOf_int_inv Try.underlying3 hkey
    obtain ⟨-, ha, hc, h4, h5⟩ := hF k hw
    obtain rfl : v = .slice ha (hopsAt H k).length hc := by
      have e1 := h4 _ rfl
      rw [hat (.held (.slice none 0 0))] at e1
      simp only [hld, Option.some.injEq] at hv
      rw [← hv] at e1
      simp only [DataW.held.injEq] at e1
      exact e1
    simp [execOp, ho, hit, hrun, Result.andThen]
    exact hMore k ha hc w' cnt' hw hlk hrg hlt hgr hsz hen h5

theorem wpList_next_hops {w w0 : World} {ops : Array Oper} {rest : List Oper} {o : Oper} {a : Act} {Q : Exit → Act → World → Prop} (hg : o.guard = none) (it : Operand) (ho : o.op = Op.next it false) (b r n cnt : Nat) (D : DataW Value) (left : Lit → Bool) (H : List Hp)
    (hit : a.eval it = .pointer (some ⟨r, 0, none⟩)) (h : w.ranges Try.prog 3 hld b r n D left cnt) (hF : FctH w0 D H)
    (hDone : (∀ kl, left kl = false) → wpList Try.prog ops Q rest (a.put o.dst (.tuple #[.bool false])) w)
    (hMore : ∀ k ha hc w' cnt', WfI k → left (kk k) = true → w'.ranges Try.prog 3 hld b r n D (fun z => left z && !z.sameKey (kk k)) cnt' → cnt' < cnt → w.grownBy w' (some r) → w'.heap.size = w.heap.size →
      (Instr.entry (.pointer (some ⟨r, 0, none⟩))).run Try.prog w' = .ok (.tuple #[.int .i64 k, .slice ha (hopsAt H k).length hc]) w' → Hops w0 ha (hopsAt H k) →
      wpList Try.prog ops Q rest (a.put o.dst (.tuple #[.bool true, .int .i64 k, .slice ha (hopsAt H k).length hc])) w') : wpList Try.prog ops Q (o :: rest) a w :=
  wpList_plain hg fun K hK => wp_next_hops it ho b r n cnt D left H hit h hF (fun h => hK _ _ (hDone h)) (fun k ha hc w' cnt' h1 h3 h4 h5 h6 h7 h8 h9 => hK _ _ (hMore k ha hc w' cnt' h1 h3 h4 h5 h6 h7 h8 h9))

end Rd
end Go.Proofs.Ytfoccmhmgdengaa
