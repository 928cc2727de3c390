/- Texts laid into one, in their order: EaPut, EaHops, EaAround, EaMem, TnLines, EaBest, EaOne, EaBestW, EaBd, EaEarl, EaLess, EaKeep. -/
import Derived.Test.YtfoccmhmgdengaaEaMap
import Derived.Test.YtfoccmhmgdengaaEaApp
import Derived.Test.YtfoccmhmgdengaaTnHop2
import Derived.Deep.Cut
import Derived.Deep.CutRange
import Derived.Deep.RegionHeld3
import Derived.Test.YtfoccmhmgdengaaTnRuns
import Derived.Test.YtfoccmhmgdengaaTnTakes
import Derived.Test.YtfoccmhmgdengaaTnTrains
import Derived.Test.YtfoccmhmgdengaaTnTrains2
import Derived.Test.YtfoccmhmgdengaaTnSpec
import Derived.Test.YtfoccmhmgdengaaEaCand
import Derived.Test.YtfoccmhmgdengaaEaPhi
import Derived.Test.YtfoccmhmgdengaaTnHop3
import Derived.Deep.LoopGhost
import Derived.Test.YtfoccmhmgdengaaEaRides
import Derived.Test.YtfoccmhmgdengaaMathRd
import Derived.BigRegion
import Derived.BigQuiet
import Derived.Test.YtfoccmhmgdengaaEaRow
/- A hop put behind those of its station. -/
namespace Go.Proofs.Ytfoccmhmgdengaa
namespace Rd
namespace Em
open Go.ChangeShapes Go.WideShapes Go.ChangeAt Go.RowKit
open Pk (new_below join_below cell_at heap_new frozen_at lt_of kept heap_old info_of own_form own_below Room)
open Go.ChangeMaps (setBlock)
set_option linter.unusedSimpArgs false
set_option linter.unusedVariables false

theorem six_at {w : World} {b : Nat} {p : Hp} {t : TypeId} {f : Nat × Nat} (h : w.heap[b]? = some (.cells #[.int .i64 p.r.tr, .int .i64 p.r.dy, .int .i64 p.r.fr, .int .i64 p.r.to, .int .i64 p.d, .int .i64 p.z] t f)) : ∀ j u, (hc1 p)[j]? = some u → w.cell? (Addr.add ⟨b, 0, none⟩ j) = some u := by
  intro j u hu
  rw [add_plain, Nat.zero_add, cell_at h j]
  simpa [hc1] using hu

theorem wp_look {w : World} {o : Oper} {a : Act} {K : Act → World → Prop} {Q : Exit → Act → World → Prop} (m x : Operand) (ho : o.op = .lookup 62 m x false) (mv kk v : Value) (hm : a.eval m = mv) (hx : a.eval x = kk)
    (hr : (Instr.lookup 62 mv kk false).run Try.prog w = .ok v w) (h : K (a.put o.dst v) w) : o.wp Try.prog a w K Q := by
  unfold Oper.wp
  simp [execOp, ho, hm, hx, hr, Result.andThen]
  exact h

theorem wp_upd {w w' : World} {o : Oper} {a : Act} {K : Act → World → Prop} {Q : Exit → Act → World → Prop} (m x y : Operand) (ho : o.op = .mapUpdate 62 m x y) (mv kk v : Value) (hm : a.eval m = mv) (hx : a.eval x = kk) (hy : a.eval y = v)
    (hr : (Instr.mapUpdate 62 mv kk v).run Try.prog w = .ok () w') (h : K (a.put o.dst undef) w') : o.wp Try.prog a w K Q := by
  unfold Oper.wp
  simp [execOp, ho, hm, hx, hy, hr, Result.andThen]
  exact h

theorem Mp.add {B b : Nat} {f : Int → List Hp} {es : Array MapEntry} {clock : Nat} {w : World} (M : Mp B b f es clock w) (p : Hp) (hk : WfI p.r.fr) (hbB : b < B) (hBw : B ≤ w.heap.size) :
    ∃ v0, (∀ w1 : World, Below w.heap.size w w1 → (Instr.lookup 62 (.map (some b)) (.int .i64 p.r.fr) false).run Try.prog w1 = .ok v0 w1) ∧ w.ownsRow B 76 6 v0 (f (p.r.fr)).length (hcells (f (p.r.fr))) ∧
      ∀ (wc w9 : World) (v' : Value), Below w.heap.size w wc → w9.ownsRow B 76 6 v' ((f (p.r.fr)).length + 1) (hcells (f (p.r.fr)) ++ hc1 p) → wc.grownBy w9 v0.ownBlock → (v'.ownBlock = v0.ownBlock ∨ v'.ownBlock = some wc.heap.size) →
        (∀ c, w.heap.size ≤ c → c < wc.heap.size → w9.heap[c]? = wc.heap[c]?) ∧ ∃ es' clock', (Instr.mapUpdate 62 (.map (some b)) (.int .i64 p.r.fr) v').run Try.prog w9 = .ok () (setBlock w9 b (.map es' clock')) ∧ Mp B b (more f (p.r.fr) p) es' clock' (setBlock w9 b (.map es' clock')) ∧ Below b w (setBlock w9 b (.map es' clock')) ∧ ∀ c, w.heap.size ≤ c → c < wc.heap.size → (setBlock w9 b (.map es' clock')).heap[c]? = wc.heap[c]? := by
  obtain ⟨v0, h1, h2, h3⟩ := M.look (p.r.fr) hk
  refine ⟨v0, fun w1 L => h1 w1 (kept L (lt_of M.blk) M.blk), h2, ?_⟩
  intro wc w9 v' L O10 G hl
  have hv : ∀ g, v0.ownBlock = some g → B ≤ g ∧ g < w.heap.size := fun g hg => h2.lt g hg
  have hbc := kept L (lt_of M.blk) M.blk
  have hb9 : w9.heap[b]? = some (.map es clock) := by
    rw [G.block b (lt_of hbc) (fun h => by have := (hv b h.symm).1; omega)]
    exact hbc
  have hc9 : ∀ c, w.heap.size ≤ c → c < wc.heap.size → w9.heap[c]? = wc.heap[c]? := fun c h4 h5 => G.block c h5 (fun h => by have := (hv c h.symm).2; omega)
  have hown : w9.ownsRow B 76 6 v' (f (p.r.fr) ++ [p]).length (hcells (f (p.r.fr) ++ [p])) := by
    rw [← hcells_snoc, List.length_append]
    exact O10
  refine ⟨hc9, ?_⟩
  obtain ⟨es', clock', h4, h5⟩ := h3 w9 v' p hb9 hown (by
    obtain ⟨g, hg, -⟩ := own_some hown (by simp)
    rcases hl with h | h
    · exact Or.inl ⟨g, hg, by rw [← h]; exact hg⟩
    · exact Or.inr ⟨_, h, L.size⟩) (fun u n xs hu hne => (own_below hu L (Nat.le_refl _)).kept G (Or.inr hne))
  refine ⟨es', clock', h4, h5, ?_, ?_⟩
  · refine ⟨G.os.trans L.os, G.tape.trans L.tape, G.output.trans L.output, ?_, fun k hk => ?_⟩
    · have h6 : (setBlock w9 b (.map es' clock')).heap.size = w9.heap.size := by simp [setBlock]
      rw [h6]
      exact Nat.le_trans L.size G.size
    · show (w9.heap.setIfInBounds b _)[k]? = _
      have hkb := lt_of M.blk
      rw [(MapKept.heap_set hb9).2 k (by omega), G.block k (by have := L.size; omega) (fun h => by have := (hv k h.symm).1; omega)]
      exact L.block k (by omega)
  · intro c h6 h7
    have hkb := lt_of M.blk
    show (w9.heap.setIfInBounds b _)[c]? = _
    rw [(MapKept.heap_set hb9).2 c (by omega)]
    exact hc9 c h6 h7

end Em
end Rd
end Go.Proofs.Ytfoccmhmgdengaa

/- All hops of a train on a day, put behind those of their stations. -/
namespace Go.Proofs.Ytfoccmhmgdengaa
namespace Rd
open Go.ChangeShapes Go.WideShapes Go.ChangeAt Go.RowKit
open Pk (new_below join_below cell_at heap_new frozen_at lt_of kept heap_old info_of own_form own_below own_ne Room)
open Tn (Tr Hd St Stops trV trB hopV)
open Go.ChangeMaps (setBlock)
set_option linter.unusedSimpArgs false
set_option linter.unusedVariables false

/-- A hop of a train from a stop to a later one. -/
def mkH (t : Hd) (l : List St) (day : Int) (i j : Nat) : Hp := ⟨⟨t.id, day, (l.getD i ⟨0, 0, 0⟩).st, (l.getD j ⟨0, 0, 0⟩).st⟩, 1440 * day + (l.getD i ⟨0, 0, 0⟩).dp, 1440 * day + (l.getD j ⟨0, 0, 0⟩).ar⟩

/-- Those from one stop, as many as m; those from the first n stops. -/
def rowH (t : Hd) (l : List St) (day : Int) (i m : Nat) : List Hp := (List.range m).map fun j => mkH t l day i (i + 1 + j)
def allT (t : Hd) (l : List St) (day : Int) (n : Nat) : List Hp := (List.range n).flatMap fun i => rowH t l day i (l.length - (i + 1))

/-- Hops put behind those of their stations. -/
def putH (f : Int → List Hp) (h : Hp) : Int → List Hp := Em.more f h.r.fr h
def putA (f : Int → List Hp) (hs : List Hp) : Int → List Hp := hs.foldl putH f

theorem putA_snoc (f : Int → List Hp) (hs : List Hp) (h : Hp) : putA f (hs ++ [h]) = Em.more (putA f hs) h.r.fr h := by
  unfold putA
  rw [List.foldl_append]
  rfl

theorem putA_at (hs : List Hp) : ∀ (f : Int → List Hp) (s : Int), putA f hs s = f s ++ hs.filter fun h => decide (h.r.fr = s) := by
  induction hs with
  | nil => intro f s; simp [putA]
  | cons h hs ih =>
    intro f s
    show putA (putH f h) hs s = _
    rw [ih]
    unfold putH
    by_cases e : h.r.fr = s
    · subst e
      rw [Em.more_same, List.filter_cons_of_pos (by simp)]
      simp
    · rw [Em.more_other _ _ _ _ (fun q => e q.symm), List.filter_cons_of_neg (by simpa using e)]

theorem putA_len (f : Int → List Hp) (hs : List Hp) (s : Int) : (putA f hs s).length ≤ (f s).length + hs.length := by
  rw [putA_at, List.length_append]
  have := List.length_filter_le (fun h : Hp => decide (h.r.fr = s)) hs
  omega

theorem rowH_succ (t : Hd) (l : List St) (day : Int) (i m : Nat) : rowH t l day i (m + 1) = rowH t l day i m ++ [mkH t l day i (i + 1 + m)] := by
  unfold rowH
  rw [List.range_succ, List.map_append]
  rfl

theorem allT_succ (t : Hd) (l : List St) (day : Int) (n : Nat) : allT t l day (n + 1) = allT t l day n ++ rowH t l day n (l.length - (n + 1)) := by
  unfold allT
  rw [List.range_succ, List.flatMap_append]
  simp

theorem rowH_len (t : Hd) (l : List St) (day : Int) (i m : Nat) : (rowH t l day i m).length = m := by simp [rowH]

theorem allT_len (t : Hd) (l : List St) (day : Int) (n : Nat) : (allT t l day n).length ≤ n * l.length := by
  induction n with
  | zero => simp [allT]
  | succ n ih =>
    rw [allT_succ, List.length_append, rowH_len, Nat.succ_mul]
    omega

theorem setBlock_other (w : World) (b c : Nat) (o : Obj) (h : c ≠ b) : (setBlock w b o).heap[c]? = w.heap[c]? := by
  show (w.heap.setIfInBounds b o)[c]? = _
  rw [Array.getElem?_setIfInBounds_ne (fun e => h e.symm)]

theorem setBlock_size (w : World) (b : Nat) (o : Obj) : (setBlock w b o).heap.size = w.heap.size := by simp [setBlock]

/-- Blocks of cells that are no hops are kept. -/
def Kt (w w1 : World) : Prop := ∀ (c : Nat) (cs : Array Value) (ty : TypeId) (fz : Nat × Nat), w.heap[c]? = some (.cells cs ty fz) → ty ≠ 76 → w1.heap[c]? = some (.cells cs ty fz)

theorem Kt.below {w w1 : World} (L : Below w.heap.size w w1) : Kt w w1 := fun c cs ty fz h _ => kept L (lt_of h) h

theorem Kt.trans {w w1 w2 : World} (h : Kt w w1) (g : Kt w1 w2) : Kt w w2 := fun c cs ty fz h1 h2 => g c cs ty fz (h c cs ty fz h1 h2) h2

theorem Kt.grown {w w1 : World} {B n : Nat} {v : Value} {xs : List Value} (O : w.ownsRow B 76 6 v n xs) (G : w.grownBy w1 v.ownBlock) : Kt w w1 := fun c cs ty fz h1 h2 => (G.block c (lt_of h1) (own_ne O h1 h2)).trans h1

theorem Kt.set {w : World} {b : Nat} {es : Array MapEntry} {clock : Nat} {o : Obj} (hb : w.heap[b]? = some (.map es clock)) : Kt w (setBlock w b o) := fun c cs ty fz h1 _ => by
  have hne : c ≠ b := by
    rintro rfl
    rw [hb] at h1
    cases h1
  rw [setBlock_other w b c o hne]
  exact h1

theorem mkH_at (t : Hd) (l : List St) (day : Int) {i j : Nat} (hi : i < l.length) (hj : j < l.length) : mkH t l day i j = ⟨⟨t.id, day, l[i].st, l[j].st⟩, 1440 * day + l[i].dp, 1440 * day + l[j].ar⟩ := by
  unfold mkH
  simp [List.getD, hi, hj]

theorem info_hop : (Try.prog.info? 76).map (fun i => (i.zero, i.size, i.bytes)) = some (some (hopV ⟨0, 0, 0, 0⟩ 0 0), 6, 48) := by kernel_rfl

set_option maxRecDepth 100000 in
set_option maxHeartbeats 8000000 in
theorem addHops_val (B b : Nat) (f : Int → List Hp) (es : Array MapEntry) (clock : Nat) (t : Hd) (day : Int) (a : Option Addr) (l : List St) (cap : Nat) (w : World) (hl : l.length ≤ 1000) (hd0 : 0 ≤ day) (hd1 : day ≤ 99999) (hf : ∀ s, (f s).length ≤ 100000)
    (hst : ∀ i (h : i < l.length), 0 ≤ l[i].ar ∧ l[i].ar ≤ 4000 ∧ 0 ≤ l[i].dp ∧ l[i].dp ≤ 4000 ∧ Em.WfI l[i].st) (hbB : b < B) (hBw : B ≤ w.heap.size) (M : Em.Mp B b f es clock w) (HST : ∀ w', Below b w w' → Stops w' a l) :
    Calls Try.prog 51 #[trV t a l.length cap, .map (some b), .int .i64 day] w fun e w' => e = .returned (.tuple #[]) ∧ (∃ es' clock', Em.Mp B b (putA f (allT t l day l.length)) es' clock' w') ∧ Below b w w' ∧ Kt w w' := by
  obtain ⟨i0, hi, hz0, hz1, hz2⟩ := info_of info_hop
  have hal : ∀ n, n ≤ l.length → n * l.length ≤ 1000000 := fun n h => Nat.le_trans (Nat.mul_le_mul h (Nat.le_refl _)) (Nat.le_trans (Nat.mul_le_mul hl hl) (by omega))
  have HSH : Hid (∀ w', Below b w w' → Stops w' a l) := HST
  have N0 := new_below w (trB t a l.length cap 33)
  have m0 := heap_new w (trB t a l.length cap 33)
  have M0 := M.on N0
  have hbw : b < w.heap.size := by omega
  have L0 : Below b w (w.alloc (trB t a l.length cap 33)) := N0.mono (by omega)
  have s0 : (w.alloc (trB t a l.length cap 33)).heap.size = w.heap.size + 1 := Array.size_push ..
  have KT0 : Kt w (w.alloc (trB t a l.length cap 33)) := Kt.below N0
  clear HST M N0
  go_enter Try.func51, Try.ntmps51
  have c4 : (w.alloc (trB t a l.length cap 33)).cell? ⟨w.heap.size, 4, none⟩ = some (.slice a l.length cap) := cell_at m0 4
  go_wp2
  generalize w.alloc (trB t a l.length cap 33) = W0 at *
  clear c4
  generalize hPT : w.heap.size = PT at *
  go_loopw [12] (fun iv wr => ∃ (i : Nat) (es' : Array MapEntry) (clock' : Nat), i ≤ l.length ∧ iv = .int .i64 i ∧ Em.Mp B b (putA f (allT t l day i)) es' clock' wr ∧ Below b w wr ∧ Kt w wr ∧ wr.heap[PT]? = some (trB t a l.length cap 33)) (fun iv _ => l.length - (intOf iv).toNat)
  case atStart => exact ⟨0, es, clock, by omega, rfl, M0, L0, KT0, m0⟩
  case round =>
    clear M0 L0 m0 s0 KT0
    obtain ⟨i, es1, clock1, hi9, rfl, M1, L1, KT1, m1⟩ := hrel
    by_cases hin : i < l.length
    · obtain ⟨bi, oi, ea, hbi, s0, s1, s2⟩ := (HSH.out wr L1).at i hin
      subst ea
      have hi1 : (i : Int) < (l.length : Int) := by omega
      have hsi := hst i hin
      obtain ⟨ti, hti⟩ : ∃ z, l[i] = z := ⟨_, rfl⟩
      rw [hti] at s0 s1 s2 hsi
      have NX := new_below wr (.cells #[.int .i64 ti.st, .int .i64 ti.ar, .int .i64 ti.dp] 42)
      have x2 := heap_new wr (.cells #[.int .i64 ti.st, .int .i64 ti.ar, .int .i64 ti.dp] 42)
      have m2 := heap_old m1 (.cells #[.int .i64 ti.st, .int .i64 ti.ar, .int .i64 ti.dp] 42)
      have M2 := M1.on NX
      have hws := L1.size
      have L2 : Below b w (wr.alloc (.cells #[.int .i64 ti.st, .int .i64 ti.ar, .int .i64 ti.dp] 42)) := L1.trans (NX.mono (by omega))
      have hPS : PT < wr.heap.size := lt_of m1
      have KT2 : Kt w (wr.alloc (.cells #[.int .i64 ti.st, .int .i64 ti.ar, .int .i64 ti.dp] 42)) := KT1.trans (Kt.below NX)
      clear M1 L1 m1 NX KT1
      go_wp2
      generalize wr.alloc (.cells #[.int .i64 ti.st, .int .i64 ti.ar, .int .i64 ti.dp] 42) = W2 at *
      generalize wr.heap.size = SB at *
      clear s0 s1 s2
      go_loopw [8] (fun jv WQ => ∃ (m : Nat) (es2 : Array MapEntry) (clock2 : Nat), i + 1 + m ≤ l.length ∧ jv = .int .i64 ((i + 1 + m : Nat) : Int) ∧ Em.Mp B b (putA f (allT t l day i ++ rowH t l day i m)) es2 clock2 WQ ∧ Below b w WQ ∧ Kt w WQ ∧ WQ.heap[PT]? = some (trB t (some ⟨bi, oi, none⟩) l.length cap 33) ∧ WQ.heap[SB]? = some (.cells #[.int .i64 ti.st, .int .i64 ti.ar, .int .i64 ti.dp] 42)) (fun jv _ => l.length - (intOf jv).toNat)
      case atStart => exact ⟨0, es1, clock1, by omega, by go_num, by simpa [rowH] using M2, L2, KT2, m2, x2⟩
      case round =>
        clear M2 L2 m2 x2 KT2
        obtain ⟨m, es2, clock2, hm9, rfl, Mq, Lq, KTq, mq, uq⟩ := hrel
        have c4 : wr.cell? ⟨PT, 4, none⟩ = some (.slice (some ⟨bi, oi, none⟩) l.length cap) := cell_at mq 4
        obtain ⟨j, hj⟩ : ∃ j, i + 1 + m = j := ⟨_, rfl⟩
        rw [hj] at hm9 ⊢
        by_cases hjn : j < l.length
        · have hjd : decide ((j : Int) < (l.length : Int)) = true := decide_eq_true (by omega)
          have hsj := hst j hjn
          obtain ⟨p, hp⟩ : ∃ p, mkH t l day i j = p := ⟨_, rfl⟩
          have hpm := (mkH_at t l day hin hjn).symm.trans hp
          have hpf : p.r.fr = ti.st := by rw [← hpm]; show l[i].st = _; rw [hti]
          obtain ⟨v0, hl0, O0, hst0⟩ := Mq.add p (by rw [hpf]; exact hsi.2.2.2.2) hbB (by have := Lq.size; omega)
          have HLN : Hid ((putA f (allT t l day i ++ rowH t l day i m) p.r.fr).length ≤ 1500000) := by
            have h1 := putA_len f (allT t l day i ++ rowH t l day i m) p.r.fr
            have h2 := hf p.r.fr
            have h3 := allT_len t l day i
            have h4 := hal i (by omega)
            rw [List.length_append, rowH_len] at h1
            show _ ≤ _
            omega
          have HPF : Hid (p.r.fr = ti.st) := hpf
          clear hpf
          have HLK : Hid (_) := hl0
          have HST2 : Hid (_) := hst0
          have HHO : Hid (∀ W : World, Stops W (some ⟨bi, oi, none⟩) l → Calls Try.prog 63 #[trV t (some ⟨bi, oi, none⟩) l.length cap, .int .i64 day, .int .i64 i, .int .i64 j] W fun e w' => e = .returned (.agg #[.int .i64 p.r.tr, .int .i64 p.r.dy, .int .i64 p.r.fr, .int .i64 p.r.to, .int .i64 p.d, .int .i64 p.z]) ∧ Below W.heap.size W w') := fun W h => by
            have h1 := Tn.hopOn_val t day (some ⟨bi, oi, none⟩) l cap i j W (by omega) hd0 hd1 hin hjn (by rw [hti]; exact ⟨hsi.2.2.1, hsi.2.2.2.1⟩) ⟨hsj.1, hsj.2.1⟩ h
            rw [← hpm]
            exact h1
          have HSQ : Hid (∀ v, Below wr.heap.size wr v → Stops v (some ⟨bi, oi, none⟩) l) := fun v k => HSH.out v (Lq.trans (k.mono (by have := Lq.size; omega)))
          have HKS : Hid (∀ v, Below wr.heap.size wr v → v.heap[PT]? = some (trB t (some ⟨bi, oi, none⟩) l.length cap 33) ∧ v.heap[SB]? = some (.cells #[.int .i64 ti.st, .int .i64 ti.ar, .int .i64 ti.dp] 42)) := fun v k => ⟨kept k (lt_of mq) mq, kept k (lt_of uq) uq⟩
          have HSB : Hid (∀ v : World, v.heap[SB]? = some (.cells #[.int .i64 ti.st, .int .i64 ti.ar, .int .i64 ti.dp] 42) → v.cell? ⟨SB, 0, none⟩ = some (.int .i64 ti.st)) := fun v h => cell_at h 0
          have HTB : Hid (∀ v : World, v.heap[PT]? = some (trB t (some ⟨bi, oi, none⟩) l.length cap 33) → v.cell? ⟨PT, 0, none⟩ = some (.int .i64 t.id) ∧ v.cell? ⟨PT, 1, none⟩ = some (.int .i64 t.dy) ∧ v.cell? ⟨PT, 2, none⟩ = some (.int .i64 t.co) ∧ v.cell? ⟨PT, 3, none⟩ = some (.int .i64 t.se) ∧ v.cell? ⟨PT, 4, none⟩ = some (.slice (some ⟨bi, oi, none⟩) l.length cap)) := fun v h => ⟨cell_at h 0, cell_at h 1, cell_at h 2, cell_at h 3, cell_at h 4⟩
          have K0 : Below wr.heap.size wr wr.drew := (Below.refl _ _).drew
          have hPb : PT ≠ b := by omega
          have hSb : SB ≠ b := by omega
          have hws2 := Lq.size
          have HBK : Hid (wr.heap[b]? = some (.map es2 clock2)) := Mq.blk
          clear hl0 hst0 hpm hsj
          go_upto_region 7 with fail
          clear c4
          refine wp_region_held_drew (S := (fun w' => w'.heap[PT]? = some (trB t (some ⟨bi, oi, none⟩) l.length cap 33) ∧ w'.heap[SB]? = some (.cells #[.int .i64 ti.st, .int .i64 ti.ar, .int .i64 ti.dp] 42))) (by kernel_rfl) ?_ (fun hHeld => ?_)
          · exact HKS.out _ K0
          refine wpAnyH_take (i := 0) (v := .map (some b)) rfl (by kernel_rfl) (by kernel_rfl) (by kernel_rfl) (fun _ _ _ h => h) (Or.inl ⟨by kernel_rfl, fun w hSw => by first | (go_simp; done) | (dsimp only at hSw; obtain ⟨hS0, hS1⟩ := hSw; go_simp; done) | rfl⟩) (by assumption) ?_
          simp only [Act.put, List.getElem_toArray, List.getElem_cons_succ, List.getElem_cons_zero, List.setIfInBounds_toArray, List.set_cons_succ, List.set_cons_zero]
          refine wpAnyH_take (i := 1) (v := .pointer (some ⟨SB, 0, none⟩)) rfl (by kernel_rfl) (by kernel_rfl) (by kernel_rfl) (fun _ _ _ h => h) (Or.inl ⟨by kernel_rfl, fun w hSw => by first | (go_simp; done) | (dsimp only at hSw; obtain ⟨hS0, hS1⟩ := hSw; go_simp; done) | rfl⟩) (by assumption) ?_
          simp only [Act.put, List.getElem_toArray, List.getElem_cons_succ, List.getElem_cons_zero, List.setIfInBounds_toArray, List.set_cons_succ, List.set_cons_zero]
          refine wpAnyH_take (i := 2) (v := .int .i64 p.r.fr) rfl (by kernel_rfl) (by kernel_rfl) (by kernel_rfl) (fun _ _ _ h => h) (Or.inl ⟨by kernel_rfl, fun w hSw => by first | (have z0 := HSB.out _ hSw.2; rw [HPF.out]; go_simp; done) | (go_simp; done) | (dsimp only at hSw; obtain ⟨hS0, hS1⟩ := hSw; go_simp; done) | rfl⟩) (by assumption) ?_
          simp only [Act.put, List.getElem_toArray, List.getElem_cons_succ, List.getElem_cons_zero, List.setIfInBounds_toArray, List.set_cons_succ, List.set_cons_zero]
          refine wpAnyH_take (i := 3) (v := .map (some b)) rfl (by kernel_rfl) (by kernel_rfl) (by kernel_rfl) (fun _ _ _ h => h) (Or.inl ⟨by kernel_rfl, fun w hSw => by first | (go_simp; done) | (dsimp only at hSw; obtain ⟨hS0, hS1⟩ := hSw; go_simp; done) | rfl⟩) (by assumption) ?_
          simp only [Act.put, List.getElem_toArray, List.getElem_cons_succ, List.getElem_cons_zero, List.setIfInBounds_toArray, List.set_cons_succ, List.set_cons_zero]
          refine wpAnyH_take (i := 4) (v := .pointer (some ⟨SB, 0, none⟩)) rfl (by kernel_rfl) (by kernel_rfl) (by kernel_rfl) (fun _ _ _ h => h) (Or.inl ⟨by kernel_rfl, fun w hSw => by first | (go_simp; done) | (dsimp only at hSw; obtain ⟨hS0, hS1⟩ := hSw; go_simp; done) | rfl⟩) (by assumption) ?_
          simp only [Act.put, List.getElem_toArray, List.getElem_cons_succ, List.getElem_cons_zero, List.setIfInBounds_toArray, List.set_cons_succ, List.set_cons_zero]
          refine wpAnyH_take (i := 5) (v := .int .i64 p.r.fr) rfl (by kernel_rfl) (by kernel_rfl) (by kernel_rfl) (fun _ _ _ h => h) (Or.inl ⟨by kernel_rfl, fun w hSw => by first | (have z0 := HSB.out _ hSw.2; rw [HPF.out]; go_simp; done) | (go_simp; done) | (dsimp only at hSw; obtain ⟨hS0, hS1⟩ := hSw; go_simp; done) | rfl⟩) (by assumption) ?_
          simp only [Act.put, List.getElem_toArray, List.getElem_cons_succ, List.getElem_cons_zero, List.setIfInBounds_toArray, List.set_cons_succ, List.set_cons_zero]
          refine wpAnyH_take (i := 7) (v := .agg #[.int .i64 t.id, .int .i64 t.dy, .int .i64 t.co, .int .i64 t.se, .slice (some ⟨bi, oi, none⟩) l.length cap]) rfl (by kernel_rfl) (by kernel_rfl) (by kernel_rfl) (fun _ _ _ h => h) (Or.inl ⟨by kernel_rfl, fun w hSw => by first | (obtain ⟨z0, z1, z2, z3, z4⟩ := HTB.out _ hSw.1; go_simp; done) | (go_simp; done) | (dsimp only at hSw; obtain ⟨hS0, hS1⟩ := hSw; go_simp; done) | rfl⟩) (by assumption) ?_
          simp only [Act.put, List.getElem_toArray, List.getElem_cons_succ, List.getElem_cons_zero, List.setIfInBounds_toArray, List.set_cons_succ, List.set_cons_zero]
          refine wpAnyH_take (i := 8) (v := .int .i64 day) rfl (by kernel_rfl) (by kernel_rfl) (by kernel_rfl) (fun _ _ _ h => h) (Or.inl ⟨by kernel_rfl, fun w hSw => by first | (go_simp; done) | (dsimp only at hSw; obtain ⟨hS0, hS1⟩ := hSw; go_simp; done) | rfl⟩) (by assumption) ?_
          simp only [Act.put, List.getElem_toArray, List.getElem_cons_succ, List.getElem_cons_zero, List.setIfInBounds_toArray, List.set_cons_succ, List.set_cons_zero]
          refine wpAnyH_take (i := 9) (v := .int .i64 i) rfl (by kernel_rfl) (by kernel_rfl) (by kernel_rfl) (fun _ _ _ h => h) (Or.inl ⟨by kernel_rfl, fun w hSw => by first | (go_simp; done) | (dsimp only at hSw; obtain ⟨hS0, hS1⟩ := hSw; go_simp; done) | rfl⟩) (by assumption) ?_
          simp only [Act.put, List.getElem_toArray, List.getElem_cons_succ, List.getElem_cons_zero, List.setIfInBounds_toArray, List.set_cons_succ, List.set_cons_zero]
          refine wpAnyH_take (i := 10) (v := .int .i64 j) rfl (by kernel_rfl) (by kernel_rfl) (by kernel_rfl) (fun _ _ _ h => h) (Or.inl ⟨by kernel_rfl, fun w hSw => by first | (go_simp; done) | (dsimp only at hSw; obtain ⟨hS0, hS1⟩ := hSw; go_simp; done) | rfl⟩) (by assumption) ?_
          simp only [Act.put, List.getElem_toArray, List.getElem_cons_succ, List.getElem_cons_zero, List.setIfInBounds_toArray, List.set_cons_succ, List.set_cons_zero]
          refine wpAnyH_ready (rs := [6, 11]) (by kernel_rfl) (by simp) ?_
          refine AllReadyH.cons rfl (fun K hK => ?_) (AllReadyH.cons rfl (fun K hK => ?_) (AllReadyH.nil))
          · rw [if_pos (by kernel_rfl)]
            refine Em.wp_look _ _ rfl _ _ v0 rfl rfl (by first | exact HLK.out _ K0 | exact HLK.out _ K1 | exact HLK.out _ K2) ?_
            try simp only [Act.put, List.getElem_toArray, List.getElem_cons_succ, List.getElem_cons_zero, List.setIfInBounds_toArray, List.set_cons_succ, List.set_cons_zero]
            refine hK.out _ _ ?_ (fun hHeld2 => ?_)
            · first | exact hHeld | exact HKS.out _ K0 | exact HKS.out _ K1 | exact HKS.out _ K2 | exact ⟨t9, u9⟩ | exact ⟨(setBlock_other w9 b PT _ hPb).trans t9, (setBlock_other w9 b SB _ hSb).trans u9⟩
            clear hK K hHeld
            have hHeld := hHeld2
            clear hHeld2
            refine wpAnyH_ready (rs := [11]) (by kernel_rfl) (by simp) ?_
            refine AllReadyH.cons rfl (fun K hK => ?_) (AllReadyH.nil)
            go_simp
            go_wp2_with (go_at_call 63; (with_reducible refine (HHO.out _ ?_).mono ?_); (exact HSQ.out _ K0); rintro e w1 ⟨rfl, L9⟩; have K1 : Below wr.heap.size wr w1 := K0.trans (L9.mono K0.size); have K2 : Below wr.heap.size wr (w1.alloc (.cells #[.int .i64 p.r.tr, .int .i64 p.r.dy, .int .i64 p.r.fr, .int .i64 p.r.to, .int .i64 p.d, .int .i64 p.z] 76)) := K1.trans ((new_below w1 (.cells #[.int .i64 p.r.tr, .int .i64 p.r.dy, .int .i64 p.r.fr, .int .i64 p.r.to, .int .i64 p.d, .int .i64 p.z] 76)).mono K1.size); have lA := heap_new w1 (.cells #[.int .i64 p.r.tr, .int .i64 p.r.dy, .int .i64 p.r.fr, .int .i64 p.r.to, .int .i64 p.d, .int .i64 p.z] 76))
            refine hK.out _ _ ?_ (fun hHeld2 => ?_)
            · first | exact hHeld | exact HKS.out _ K0 | exact HKS.out _ K1 | exact HKS.out _ K2 | exact ⟨t9, u9⟩ | exact ⟨(setBlock_other w9 b PT _ hPb).trans t9, (setBlock_other w9 b SB _ hSb).trans u9⟩
            clear hK K hHeld
            have hHeld := hHeld2
            clear hHeld2
            refine wpAnyH_ready (rs := [12]) (by kernel_rfl) (by simp) ?_
            refine AllReadyH.cons rfl (fun K hK => ?_) (AllReadyH.nil)
            go_simp
            refine hK.out _ _ ?_ (fun hHeld2 => ?_)
            · first | exact hHeld | exact HKS.out _ K0 | exact HKS.out _ K1 | exact HKS.out _ K2 | exact ⟨t9, u9⟩ | exact ⟨(setBlock_other w9 b PT _ hPb).trans t9, (setBlock_other w9 b SB _ hSb).trans u9⟩
            clear hK K hHeld
            have hHeld := hHeld2
            clear hHeld2
            refine wpAnyH_ready (rs := [13]) (by kernel_rfl) (by simp) ?_
            refine AllReadyH.cons rfl (fun K hK => ?_) AllReadyH.nil
            rw [if_pos (by kernel_rfl)]
            have OA := own_below O0 K2 (Nat.le_refl _); have tA := HKS.out _ K2; refine wp_append_at _ _ 101 rfl B 76 i0 (hopV ⟨0, 0, 0, 0⟩ 0 0) 6 48 Try.underlying101 hi hz0 hz1 hz2 rfl (by decide) v0 _ _ rfl OA ⟨w1.heap.size, 0, none⟩ 1 1 (Em.hc1 p) rfl rfl (Em.six_at lA) (by intro u hu; simp only [Em.hc1, List.mem_cons, List.not_mem_nil, or_false] at hu; rcases hu with rfl | rfl | rfl | rfl | rfl | rfl <;> rfl) (by have := HLN.out; unfold maxLen; omega) (by have := HLN.out; omega) (by have := K2.size; omega) ?_
            intro v9 w9 O9 G9 hat
            have t9 : w9.heap[PT]? = _ := (G9.block PT (lt_of tA.1) (own_ne OA tA.1 (by decide))).trans tA.1
            have u9 : w9.heap[SB]? = _ := (G9.block SB (lt_of tA.2) (own_ne OA tA.2 (by decide))).trans tA.2
            obtain ⟨-, es3, clock3, hup, M3, L3, -⟩ := HST2.out (w1.alloc (.cells #[.int .i64 p.r.tr, .int .i64 p.r.dy, .int .i64 p.r.fr, .int .i64 p.r.to, .int .i64 p.d, .int .i64 p.z] 76)) w9 v9 K2 O9 G9 hat
            have bA := kept K2 (lt_of HBK.out) HBK.out
            have hb9 : w9.heap[b]? = _ := (G9.block b (lt_of bA) (fun h => by have := (OA.lt _ h.symm).1; omega)).trans bA
            have KT9 : Kt w w9 := (KTq.trans (Kt.below K2)).trans (Kt.grown OA G9)
            try simp only [Act.put, List.getElem_toArray, List.getElem_cons_succ, List.getElem_cons_zero, List.setIfInBounds_toArray, List.set_cons_succ, List.set_cons_zero]
            refine hK.out _ _ ?_ (fun hHeld2 => ?_)
            · first | exact hHeld | exact HKS.out _ K0 | exact HKS.out _ K1 | exact HKS.out _ K2 | exact ⟨t9, u9⟩ | exact ⟨(setBlock_other w9 b PT _ hPb).trans t9, (setBlock_other w9 b SB _ hSb).trans u9⟩
            clear hK K hHeld
            have hHeld := hHeld2
            clear hHeld2
            refine wpAnyH_ready (rs := [14]) (by kernel_rfl) (by simp) ?_
            refine AllReadyH.cons rfl (fun K hK => ?_) AllReadyH.nil
            rw [if_pos (by kernel_rfl)]
            refine Em.wp_upd _ _ _ rfl _ _ _ rfl rfl rfl hup ?_
            try simp only [Act.put, List.getElem_toArray, List.getElem_cons_succ, List.getElem_cons_zero, List.setIfInBounds_toArray, List.set_cons_succ, List.set_cons_zero]
            refine hK.out _ _ ?_ (fun hHeld2 => ?_)
            · first | exact hHeld | exact HKS.out _ K0 | exact HKS.out _ K1 | exact HKS.out _ K2 | exact ⟨t9, u9⟩ | exact ⟨(setBlock_other w9 b PT _ hPb).trans t9, (setBlock_other w9 b SB _ hSb).trans u9⟩
            clear hK K hHeld
            have hHeld := hHeld2
            clear hHeld2
            refine wpAnyH_done (by kernel_rfl) ?_ _
            have KT10 : Kt w (setBlock w9 b (.map es3 clock3)) := KT9.trans (Kt.set hb9)
            clear bA hb9 KT9 OA G9 KTq
            have t10 := (setBlock_other w9 b PT (.map es3 clock3) hPb).trans t9
            have u10 := (setBlock_other w9 b SB (.map es3 clock3) hSb).trans u9
            have L10 : Below b w (setBlock w9 b (.map es3 clock3)) := Lq.trans L3
            clear hHeld HKS HSQ HHO HLK HST2 HLN HSB HTB O0 K0 K1 K2 lA t9 u9 hup L3 Mq Lq mq uq
            go_wp2
            go_roundw
            case rel => exact ⟨m + 1, es3, clock3, by omega, by rw [← hj]; go_num, by rw [rowH_succ, ← List.append_assoc, putA_snoc, hj, hp]; exact M3, L10, KT10, t10, u10⟩
            case measure => simp [intOf]; omega
          · go_simp
            go_wp2_with (go_at_call 63; (with_reducible refine (HHO.out _ ?_).mono ?_); (exact HSQ.out _ K0); rintro e w1 ⟨rfl, L9⟩; have K1 : Below wr.heap.size wr w1 := K0.trans (L9.mono K0.size); have K2 : Below wr.heap.size wr (w1.alloc (.cells #[.int .i64 p.r.tr, .int .i64 p.r.dy, .int .i64 p.r.fr, .int .i64 p.r.to, .int .i64 p.d, .int .i64 p.z] 76)) := K1.trans ((new_below w1 (.cells #[.int .i64 p.r.tr, .int .i64 p.r.dy, .int .i64 p.r.fr, .int .i64 p.r.to, .int .i64 p.d, .int .i64 p.z] 76)).mono K1.size); have lA := heap_new w1 (.cells #[.int .i64 p.r.tr, .int .i64 p.r.dy, .int .i64 p.r.fr, .int .i64 p.r.to, .int .i64 p.d, .int .i64 p.z] 76))
            refine hK.out _ _ ?_ (fun hHeld2 => ?_)
            · first | exact hHeld | exact HKS.out _ K0 | exact HKS.out _ K1 | exact HKS.out _ K2 | exact ⟨t9, u9⟩ | exact ⟨(setBlock_other w9 b PT _ hPb).trans t9, (setBlock_other w9 b SB _ hSb).trans u9⟩
            clear hK K hHeld
            have hHeld := hHeld2
            clear hHeld2
            refine wpAnyH_ready (rs := [6, 12]) (by kernel_rfl) (by simp) ?_
            refine AllReadyH.cons rfl (fun K hK => ?_) (AllReadyH.cons rfl (fun K hK => ?_) (AllReadyH.nil))
            · rw [if_pos (by kernel_rfl)]
              refine Em.wp_look _ _ rfl _ _ v0 rfl rfl (by first | exact HLK.out _ K0 | exact HLK.out _ K1 | exact HLK.out _ K2) ?_
              try simp only [Act.put, List.getElem_toArray, List.getElem_cons_succ, List.getElem_cons_zero, List.setIfInBounds_toArray, List.set_cons_succ, List.set_cons_zero]
              refine hK.out _ _ ?_ (fun hHeld2 => ?_)
              · first | exact hHeld | exact HKS.out _ K0 | exact HKS.out _ K1 | exact HKS.out _ K2 | exact ⟨t9, u9⟩ | exact ⟨(setBlock_other w9 b PT _ hPb).trans t9, (setBlock_other w9 b SB _ hSb).trans u9⟩
              clear hK K hHeld
              have hHeld := hHeld2
              clear hHeld2
              refine wpAnyH_ready (rs := [12]) (by kernel_rfl) (by simp) ?_
              refine AllReadyH.cons rfl (fun K hK => ?_) (AllReadyH.nil)
              go_simp
              refine hK.out _ _ ?_ (fun hHeld2 => ?_)
              · first | exact hHeld | exact HKS.out _ K0 | exact HKS.out _ K1 | exact HKS.out _ K2 | exact ⟨t9, u9⟩ | exact ⟨(setBlock_other w9 b PT _ hPb).trans t9, (setBlock_other w9 b SB _ hSb).trans u9⟩
              clear hK K hHeld
              have hHeld := hHeld2
              clear hHeld2
              refine wpAnyH_ready (rs := [13]) (by kernel_rfl) (by simp) ?_
              refine AllReadyH.cons rfl (fun K hK => ?_) AllReadyH.nil
              rw [if_pos (by kernel_rfl)]
              have OA := own_below O0 K2 (Nat.le_refl _); have tA := HKS.out _ K2; refine wp_append_at _ _ 101 rfl B 76 i0 (hopV ⟨0, 0, 0, 0⟩ 0 0) 6 48 Try.underlying101 hi hz0 hz1 hz2 rfl (by decide) v0 _ _ rfl OA ⟨w1.heap.size, 0, none⟩ 1 1 (Em.hc1 p) rfl rfl (Em.six_at lA) (by intro u hu; simp only [Em.hc1, List.mem_cons, List.not_mem_nil, or_false] at hu; rcases hu with rfl | rfl | rfl | rfl | rfl | rfl <;> rfl) (by have := HLN.out; unfold maxLen; omega) (by have := HLN.out; omega) (by have := K2.size; omega) ?_
              intro v9 w9 O9 G9 hat
              have t9 : w9.heap[PT]? = _ := (G9.block PT (lt_of tA.1) (own_ne OA tA.1 (by decide))).trans tA.1
              have u9 : w9.heap[SB]? = _ := (G9.block SB (lt_of tA.2) (own_ne OA tA.2 (by decide))).trans tA.2
              obtain ⟨-, es3, clock3, hup, M3, L3, -⟩ := HST2.out (w1.alloc (.cells #[.int .i64 p.r.tr, .int .i64 p.r.dy, .int .i64 p.r.fr, .int .i64 p.r.to, .int .i64 p.d, .int .i64 p.z] 76)) w9 v9 K2 O9 G9 hat
              have bA := kept K2 (lt_of HBK.out) HBK.out
              have hb9 : w9.heap[b]? = _ := (G9.block b (lt_of bA) (fun h => by have := (OA.lt _ h.symm).1; omega)).trans bA
              have KT9 : Kt w w9 := (KTq.trans (Kt.below K2)).trans (Kt.grown OA G9)
              try simp only [Act.put, List.getElem_toArray, List.getElem_cons_succ, List.getElem_cons_zero, List.setIfInBounds_toArray, List.set_cons_succ, List.set_cons_zero]
              refine hK.out _ _ ?_ (fun hHeld2 => ?_)
              · first | exact hHeld | exact HKS.out _ K0 | exact HKS.out _ K1 | exact HKS.out _ K2 | exact ⟨t9, u9⟩ | exact ⟨(setBlock_other w9 b PT _ hPb).trans t9, (setBlock_other w9 b SB _ hSb).trans u9⟩
              clear hK K hHeld
              have hHeld := hHeld2
              clear hHeld2
              refine wpAnyH_ready (rs := [14]) (by kernel_rfl) (by simp) ?_
              refine AllReadyH.cons rfl (fun K hK => ?_) AllReadyH.nil
              rw [if_pos (by kernel_rfl)]
              refine Em.wp_upd _ _ _ rfl _ _ _ rfl rfl rfl hup ?_
              try simp only [Act.put, List.getElem_toArray, List.getElem_cons_succ, List.getElem_cons_zero, List.setIfInBounds_toArray, List.set_cons_succ, List.set_cons_zero]
              refine hK.out _ _ ?_ (fun hHeld2 => ?_)
              · first | exact hHeld | exact HKS.out _ K0 | exact HKS.out _ K1 | exact HKS.out _ K2 | exact ⟨t9, u9⟩ | exact ⟨(setBlock_other w9 b PT _ hPb).trans t9, (setBlock_other w9 b SB _ hSb).trans u9⟩
              clear hK K hHeld
              have hHeld := hHeld2
              clear hHeld2
              refine wpAnyH_done (by kernel_rfl) ?_ _
              have KT10 : Kt w (setBlock w9 b (.map es3 clock3)) := KT9.trans (Kt.set hb9)
              clear bA hb9 KT9 OA G9 KTq
              have t10 := (setBlock_other w9 b PT (.map es3 clock3) hPb).trans t9
              have u10 := (setBlock_other w9 b SB (.map es3 clock3) hSb).trans u9
              have L10 : Below b w (setBlock w9 b (.map es3 clock3)) := Lq.trans L3
              clear hHeld HKS HSQ HHO HLK HST2 HLN HSB HTB O0 K0 K1 K2 lA t9 u9 hup L3 Mq Lq mq uq
              go_wp2
              go_roundw
              case rel => exact ⟨m + 1, es3, clock3, by omega, by rw [← hj]; go_num, by rw [rowH_succ, ← List.append_assoc, putA_snoc, hj, hp]; exact M3, L10, KT10, t10, u10⟩
              case measure => simp [intOf]; omega
            · go_simp
              refine hK.out _ _ ?_ (fun hHeld2 => ?_)
              · first | exact hHeld | exact HKS.out _ K0 | exact HKS.out _ K1 | exact HKS.out _ K2 | exact ⟨t9, u9⟩ | exact ⟨(setBlock_other w9 b PT _ hPb).trans t9, (setBlock_other w9 b SB _ hSb).trans u9⟩
              clear hK K hHeld
              have hHeld := hHeld2
              clear hHeld2
              refine wpAnyH_ready (rs := [6]) (by kernel_rfl) (by simp) ?_
              refine AllReadyH.cons rfl (fun K hK => ?_) (AllReadyH.nil)
              rw [if_pos (by kernel_rfl)]
              refine Em.wp_look _ _ rfl _ _ v0 rfl rfl (by first | exact HLK.out _ K0 | exact HLK.out _ K1 | exact HLK.out _ K2) ?_
              try simp only [Act.put, List.getElem_toArray, List.getElem_cons_succ, List.getElem_cons_zero, List.setIfInBounds_toArray, List.set_cons_succ, List.set_cons_zero]
              refine hK.out _ _ ?_ (fun hHeld2 => ?_)
              · first | exact hHeld | exact HKS.out _ K0 | exact HKS.out _ K1 | exact HKS.out _ K2 | exact ⟨t9, u9⟩ | exact ⟨(setBlock_other w9 b PT _ hPb).trans t9, (setBlock_other w9 b SB _ hSb).trans u9⟩
              clear hK K hHeld
              have hHeld := hHeld2
              clear hHeld2
              refine wpAnyH_ready (rs := [13]) (by kernel_rfl) (by simp) ?_
              refine AllReadyH.cons rfl (fun K hK => ?_) AllReadyH.nil
              rw [if_pos (by kernel_rfl)]
              have OA := own_below O0 K2 (Nat.le_refl _); have tA := HKS.out _ K2; refine wp_append_at _ _ 101 rfl B 76 i0 (hopV ⟨0, 0, 0, 0⟩ 0 0) 6 48 Try.underlying101 hi hz0 hz1 hz2 rfl (by decide) v0 _ _ rfl OA ⟨w1.heap.size, 0, none⟩ 1 1 (Em.hc1 p) rfl rfl (Em.six_at lA) (by intro u hu; simp only [Em.hc1, List.mem_cons, List.not_mem_nil, or_false] at hu; rcases hu with rfl | rfl | rfl | rfl | rfl | rfl <;> rfl) (by have := HLN.out; unfold maxLen; omega) (by have := HLN.out; omega) (by have := K2.size; omega) ?_
              intro v9 w9 O9 G9 hat
              have t9 : w9.heap[PT]? = _ := (G9.block PT (lt_of tA.1) (own_ne OA tA.1 (by decide))).trans tA.1
              have u9 : w9.heap[SB]? = _ := (G9.block SB (lt_of tA.2) (own_ne OA tA.2 (by decide))).trans tA.2
              obtain ⟨-, es3, clock3, hup, M3, L3, -⟩ := HST2.out (w1.alloc (.cells #[.int .i64 p.r.tr, .int .i64 p.r.dy, .int .i64 p.r.fr, .int .i64 p.r.to, .int .i64 p.d, .int .i64 p.z] 76)) w9 v9 K2 O9 G9 hat
              have bA := kept K2 (lt_of HBK.out) HBK.out
              have hb9 : w9.heap[b]? = _ := (G9.block b (lt_of bA) (fun h => by have := (OA.lt _ h.symm).1; omega)).trans bA
              have KT9 : Kt w w9 := (KTq.trans (Kt.below K2)).trans (Kt.grown OA G9)
              try simp only [Act.put, List.getElem_toArray, List.getElem_cons_succ, List.getElem_cons_zero, List.setIfInBounds_toArray, List.set_cons_succ, List.set_cons_zero]
              refine hK.out _ _ ?_ (fun hHeld2 => ?_)
              · first | exact hHeld | exact HKS.out _ K0 | exact HKS.out _ K1 | exact HKS.out _ K2 | exact ⟨t9, u9⟩ | exact ⟨(setBlock_other w9 b PT _ hPb).trans t9, (setBlock_other w9 b SB _ hSb).trans u9⟩
              clear hK K hHeld
              have hHeld := hHeld2
              clear hHeld2
              refine wpAnyH_ready (rs := [14]) (by kernel_rfl) (by simp) ?_
              refine AllReadyH.cons rfl (fun K hK => ?_) AllReadyH.nil
              rw [if_pos (by kernel_rfl)]
              refine Em.wp_upd _ _ _ rfl _ _ _ rfl rfl rfl hup ?_
              try simp only [Act.put, List.getElem_toArray, List.getElem_cons_succ, List.getElem_cons_zero, List.setIfInBounds_toArray, List.set_cons_succ, List.set_cons_zero]
              refine hK.out _ _ ?_ (fun hHeld2 => ?_)
              · first | exact hHeld | exact HKS.out _ K0 | exact HKS.out _ K1 | exact HKS.out _ K2 | exact ⟨t9, u9⟩ | exact ⟨(setBlock_other w9 b PT _ hPb).trans t9, (setBlock_other w9 b SB _ hSb).trans u9⟩
              clear hK K hHeld
              have hHeld := hHeld2
              clear hHeld2
              refine wpAnyH_done (by kernel_rfl) ?_ _
              have KT10 : Kt w (setBlock w9 b (.map es3 clock3)) := KT9.trans (Kt.set hb9)
              clear bA hb9 KT9 OA G9 KTq
              have t10 := (setBlock_other w9 b PT (.map es3 clock3) hPb).trans t9
              have u10 := (setBlock_other w9 b SB (.map es3 clock3) hSb).trans u9
              have L10 : Below b w (setBlock w9 b (.map es3 clock3)) := Lq.trans L3
              clear hHeld HKS HSQ HHO HLK HST2 HLN HSB HTB O0 K0 K1 K2 lA t9 u9 hup L3 Mq Lq mq uq
              go_wp2
              go_roundw
              case rel => exact ⟨m + 1, es3, clock3, by omega, by rw [← hj]; go_num, by rw [rowH_succ, ← List.append_assoc, putA_snoc, hj, hp]; exact M3, L10, KT10, t10, u10⟩
              case measure => simp [intOf]; omega
        · obtain rfl : j = l.length := by omega
          have hml : m = l.length - (i + 1) := by omega
          go_wp2
          go_roundw
          case rel => exact ⟨i + 1, es2, clock2, by omega, by go_num, by rw [allT_succ, ← hml]; exact Mq, Lq, KTq, mq⟩
          case measure => simp [intOf]; omega
    · obtain rfl : i = l.length := by omega
      go_wp2
      go_end0
      exact ⟨rfl, ⟨es1, clock1, M1⟩, L1, KT1⟩

end Rd
end Go.Proofs.Ytfoccmhmgdengaa

/- All hops of the days about one, by their stations. -/
namespace Go.Proofs.Ytfoccmhmgdengaa
namespace Rd
open Go.ChangeShapes Go.WideShapes Go.ChangeAt Go.RowKit
open Pk (new_below join_below cell_at heap_new frozen_at lt_of kept heap_old info_of own_form own_below own_ne Room)
open Tn (Tr Hd St Stops Trains Nums trV trB hopV runsB okB inB)
set_option linter.unusedSimpArgs false
set_option linter.unusedVariables false

/-- The hops of a train on the first m days; of the first n trains. -/
def dayH (t : Tr) (day : Int) (m : Nat) : List Hp := (List.range m).flatMap fun (k : Nat) => if runsB t.h t.l (day - 2 + (k : Int)) = true then allT t.h t.l (day - 2 + (k : Int)) t.l.length else []
def allP (ts : List Tr) (day : Int) : List Hp := ts.flatMap fun t => dayH t day 4

theorem dayH_succ (t : Tr) (day : Int) (m : Nat) : dayH t day (m + 1) = dayH t day m ++ if runsB t.h t.l (day - 2 + (m : Int)) = true then allT t.h t.l (day - 2 + (m : Int)) t.l.length else [] := by
  unfold dayH
  rw [List.range_succ, List.flatMap_append]
  simp

theorem allP_take (ts : List Tr) (day : Int) (i : Nat) (h : i < ts.length) : allP (ts.take (i + 1)) day = allP (ts.take i) day ++ dayH ts[i] day 4 := by
  unfold allP
  rw [List.take_succ_eq_append_getElem h, List.flatMap_append]
  simp

theorem dayH_len (t : Tr) (day : Int) (hl : t.l.length ≤ 20) : ∀ m, (dayH t day m).length ≤ m * 400
  | 0 => by simp [dayH]
  | m + 1 => by
    rw [dayH_succ, List.length_append]
    have h1 := dayH_len t day hl m
    have h2 : (if runsB t.h t.l (day - 2 + (m : Int)) = true then allT t.h t.l (day - 2 + (m : Int)) t.l.length else []).length ≤ 400 := by
      split
      · have h3 := allT_len t.h t.l (day - 2 + (m : Int)) t.l.length
        have h4 := Nat.mul_le_mul hl hl
        omega
      · simp
    omega

theorem allP_len (ts : List Tr) (day : Int) (hl : ∀ t ∈ ts, t.l.length ≤ 20) : (allP ts day).length ≤ ts.length * 1600 := by
  induction ts with
  | nil => simp [allP]
  | cons t ts ih =>
    have h1 := ih fun x hx => hl x (List.mem_cons_of_mem _ hx)
    have h2 := dayH_len t day (hl t List.mem_cons_self) 4
    have e : allP (t :: ts) day = dayH t day 4 ++ allP ts day := by simp [allP]
    rw [e, List.length_append, List.length_cons, Nat.succ_mul]
    omega

theorem putA_app (f : Int → List Hp) (a b : List Hp) : putA f (a ++ b) = putA (putA f a) b := by
  unfold putA
  rw [List.foldl_append]

theorem wf_st {x : Int} (h1 : 1 ≤ x) (h2 : x ≤ 9999) : Em.WfI x := by
  exact WalkArith.wf_i64 (by omega)

theorem wr64h {x : Int} (h0 : -1000000 ≤ x) (h1 : x ≤ 1000000) : wrap64 x = x ∧ IntKind.i64.wrap x = x :=
  ⟨by unfold wrap64; omega, by rw [IntKind.wrap_i64]; omega⟩

theorem runs_day {t : Hd} {l : List St} {d : Int} (h : runsB t l d = true) : okB t l = true ∧ 0 ≤ d ∧ d ≤ 99999 := by
  unfold runsB inB at h
  simp only [Bool.and_eq_true, decide_eq_true_eq] at h
  exact ⟨h.1, h.2.1.1, h.2.1.2⟩

set_option maxRecDepth 100000 in
set_option maxHeartbeats 8000000 in
theorem hopsAround_val (ts : List Tr) (va : Option Addr) (vc : Nat) (day : Int) (w : World) (hn : ts.length ≤ 40) (hd0 : 0 ≤ day) (hd1 : day ≤ 90000) (hs : ∀ t ∈ ts, okB t.h t.l = true) (I : Trains w va ts) :
    Calls Try.prog 30 #[.slice va ts.length vc, .int .i64 day] w fun e w' => e = .returned (.map (some w.heap.size)) ∧ (∃ es clock, Em.Mp (w.heap.size + 1) w.heap.size (putA (fun _ => []) (allP ts day)) es clock w') ∧ Below w.heap.size w w' := by
  have M0 := Em.mp_new (w.heap.size + 1) w
  have N0 := new_below w (.map #[] 0)
  have s0 : (w.alloc (.map #[] 0)).heap.size = w.heap.size + 1 := Array.size_push ..
  have hlen : ∀ t ∈ ts, t.l.length ≤ 20 := fun t ht => (Tn.ok_len (hs t ht)).2
  have HI : Hid (Trains w va ts) := I
  have HAL : Hid (∀ i, (allP (ts.take i) day).length ≤ 64000) := fun i => by
    have h1 := allP_len (ts.take i) day (fun t ht => hlen t (List.mem_of_mem_take ht))
    have h2 : (ts.take i).length ≤ ts.length := by rw [List.length_take]; omega
    show _ ≤ _
    omega
  clear I
  have hmk : ∀ w : World, (Instr.makeMap 62 none).run Try.prog w = .ok (.map (some w.heap.size)) (w.alloc (.map #[] 0)) := fun w => by simp [Instr.makeMap, go_sem]
  go_enter Try.func30, Try.ntmps30
  go_wp2
  generalize w.alloc (.map #[] 0) = W0 at *
  generalize hb : w.heap.size = b at *
  go_loopw [12] (fun iv wr => ∃ (i : Nat) (es : Array MapEntry) (clock : Nat), i ≤ ts.length ∧ iv = .int .i64 i ∧ Em.Mp (b + 1) b (putA (fun _ => []) (allP (ts.take i) day)) es clock wr ∧ Below b w wr ∧ b + 1 ≤ wr.heap.size) (fun iv _ => ts.length - (intOf iv).toNat)
  case atStart => exact ⟨0, #[], 0, by omega, rfl, M0, N0, by omega⟩
  case round =>
    clear M0 N0 s0
    obtain ⟨i, es1, clock1, hi9, rfl, M1, L1, z1⟩ := hrel
    by_cases hin : i < ts.length
    · have hi1 : (i : Int) < (ts.length : Int) := by omega
      rcases HI.out with h | ⟨tb, o, ea, htb, hx⟩
      · rw [h] at hin
        simp at hin
      subst ea
      rw [hb] at htb
      obtain ⟨⟨n0, n1, n2, n3⟩, bi, oi, ci, n4, SS⟩ := hx i hin
      have hok := hs ts[i] (List.getElem_mem hin)
      replace n0 := (L1.cell (p := ⟨tb, o + i * 5, none⟩) htb).trans n0
      replace n1 := (L1.cell (p := ⟨tb, o + i * 5 + 1, none⟩) htb).trans n1
      replace n2 := (L1.cell (p := ⟨tb, o + i * 5 + 2, none⟩) htb).trans n2
      replace n3 := (L1.cell (p := ⟨tb, o + i * 5 + 3, none⟩) htb).trans n3
      replace n4 := (L1.cell (p := ⟨tb, o + i * 5 + 4, none⟩) htb).trans n4
      have HSS : Hid (∀ v, Below b w v → Stops v (some ⟨bi, oi, none⟩) ts[i].l) := fun v L => SS.on (by rw [hb]; exact L)
      clear hx
      have HAT : Hid (allP (ts.take (i + 1)) day = allP (ts.take i) day ++ dayH ts[i] day 4) := allP_take ts day i hin
      obtain ⟨t, ht⟩ : ∃ t, ts[i] = t := ⟨_, rfl⟩
      rw [ht] at n0 n1 n2 n3 n4 SS hok HSS HAT
      have hl20 := Tn.ok_len hok
      have hst : ∀ k (h : k < t.l.length), 0 ≤ t.l[k].ar ∧ t.l[k].ar ≤ 4000 ∧ 0 ≤ t.l[k].dp ∧ t.l[k].dp ≤ 4000 ∧ Em.WfI t.l[k].st := fun k h => by
        obtain ⟨a1, a2, a3, a4⟩ := Tn.ok_stop hok k h
        exact ⟨a2.1, a2.2, by omega, a4, wf_st a1.1 a1.2⟩
      have NX := new_below wr (trB t.h (some ⟨bi, oi, none⟩) t.l.length ci 33)
      have x2 := heap_new wr (trB t.h (some ⟨bi, oi, none⟩) t.l.length ci 33)
      have M2 := M1.on NX
      have L2 : Below b w (wr.alloc (trB t.h (some ⟨bi, oi, none⟩) t.l.length ci 33)) := L1.trans (NX.mono (by omega))
      have z2 : b + 1 ≤ (wr.alloc (trB t.h (some ⟨bi, oi, none⟩) t.l.length ci 33)).heap.size := Nat.le_trans z1 NX.size
      obtain ⟨d0, hd⟩ : ∃ d : Int, day - 2 = d := ⟨_, rfl⟩
      have q1 := wr64h (x := day - 2) (by omega) (by omega)
      have q1a := q1.1.trans hd
      have q1b := q1.2.trans hd
      clear M1 L1 z1 NX SS q1
      go_wp2
      generalize wr.alloc (trB t.h (some ⟨bi, oi, none⟩) t.l.length ci 33) = W2 at *
      generalize wr.heap.size = SB at *
      clear q1a q1b n0 n1 n2 n3 n4
      go_loopw [8] (fun dv WQ => ∃ (m : Nat) (es2 : Array MapEntry) (clock2 : Nat), m ≤ 4 ∧ dv = .int .i64 (d0 + (m : Int)) ∧ Em.Mp (b + 1) b (putA (fun _ => []) (allP (ts.take i) day ++ dayH t day m)) es2 clock2 WQ ∧ Below b w WQ ∧ b + 1 ≤ WQ.heap.size ∧ WQ.heap[SB]? = some (trB t.h (some ⟨bi, oi, none⟩) t.l.length ci 33)) (fun dv _ => (day + 2 - intOf dv).toNat)
      case atStart => exact ⟨0, es1, clock1, by omega, by simp, by simpa [dayH] using M2, L2, z2, x2⟩
      case round =>
        clear M2 L2 z2 x2
        obtain ⟨m, es2, clock2, hm4, rfl, Mq, Lq, zq, uq⟩ := hrel
        obtain ⟨y, hy⟩ : ∃ y, d0 + (m : Int) = y := ⟨_, rfl⟩
        rw [hy]
        obtain ⟨d1, hd1'⟩ : ∃ d : Int, day + 1 = d := ⟨_, rfl⟩
        have hy' : day - 2 + (m : Int) = y := by omega
        have q2 := wr64h (x := day + 1) (by omega) (by omega)
        obtain ⟨y1, hy1⟩ : ∃ z : Int, y + 1 = z := ⟨_, rfl⟩
        have q3 := wr64h (x := y + 1) (by omega) (by omega)
        have hy2 : y1 = d0 + ((m + 1 : Nat) : Int) := by omega
        have hme : (day + 2 - y1).toNat < (day + 2 - y).toNat ∨ 4 ≤ m := by omega
        by_cases hm : m < 4
        · have hle : decide (y ≤ d1) = true := decide_eq_true (by omega)
          have hmm : m + 1 ≤ 4 := by omega
          have hmz : (day + 2 - (d0 + ((m : Int) + 1))).toNat < (day + 2 - y).toNat := by omega
          have hml : t.l.length ≤ 1000 := by omega
          have hmx : t.l.length ≤ maxLen := by unfold maxLen; omega
          have hbz := hb
          have q2a := q2.1.trans hd1'
          have q2b := q2.2.trans hd1'
          have q3a := q3.1.trans hy1
          have q3b := q3.2.trans hy1
          clear q2 q3 hme hm
          have c0 : wr.cell? ⟨SB, 0, none⟩ = some (.int .i64 t.h.id) := cell_at uq 0
          have c1 : wr.cell? ⟨SB, 1, none⟩ = some (.int .i64 t.h.dy) := cell_at uq 1
          have c2 : wr.cell? ⟨SB, 2, none⟩ = some (.int .i64 t.h.co) := cell_at uq 2
          have c3 : wr.cell? ⟨SB, 3, none⟩ = some (.int .i64 t.h.se) := cell_at uq 3
          have c4 : wr.cell? ⟨SB, 4, none⟩ = some (.slice (some ⟨bi, oi, none⟩) t.l.length ci) := cell_at uq 4
          have HRU := Tn.implRuns_val t.h y (some ⟨bi, oi, none⟩) t.l ci wr hmx (HSS.out _ Lq)
          go_wp2_with fail
          refine HRU.mono ?_
          rintro e w1 ⟨rfl, L9⟩
          clear HRU c0 c1 c2 c3 c4
          have Mz := Mq.on L9
          have Lz : Below b w w1 := Lq.trans (L9.mono (Nat.le_of_succ_le zq))
          have uz := kept L9 (lt_of uq) uq
          have zz : b + 1 ≤ w1.heap.size := Nat.le_trans zq L9.size
          clear Mq Lq uq zq L9
          cases hR : runsB t.h t.l y
          · have HMZ : Hid (Em.Mp (b + 1) b (putA (fun _ => []) (allP (ts.take i) day ++ dayH t day (m + 1))) es2 clock2 w1) := by
              show Em.Mp _ _ _ _ _ _
              rw [dayH_succ, hy', hR]
              simpa using Mz
            go_wp2
            go_roundw
            case rel => exact ⟨m + 1, es2, clock2, hmm, by first | go_num | simp, HMZ.out, Lz, zz, uz⟩
            case measure => simpa [intOf] using hmz
          · obtain ⟨-, y0, y9⟩ := runs_day hR
            have hfl : ∀ s, (putA (fun _ => []) (allP (ts.take i) day ++ dayH t day m) s).length ≤ 100000 := fun s => by
              have h1 := putA_len (fun _ => []) (allP (ts.take i) day ++ dayH t day m) s
              have h2 := HAL.out i
              have h3 := dayH_len t day hl20.2 m
              rw [List.length_append] at h1
              simp only [List.length_nil] at h1
              clear q2a q2b q3a q3b
              omega
            have HAH := addHops_val (b + 1) b _ es2 clock2 t.h y (some ⟨bi, oi, none⟩) t.l ci w1 hml y0 y9 hfl hst (Nat.lt_succ_self b) zz Mz (fun v L => HSS.out v (Lz.trans L))
            have c0 : w1.cell? ⟨SB, 0, none⟩ = some (.int .i64 t.h.id) := cell_at uz 0
            have c1 : w1.cell? ⟨SB, 1, none⟩ = some (.int .i64 t.h.dy) := cell_at uz 1
            have c2 : w1.cell? ⟨SB, 2, none⟩ = some (.int .i64 t.h.co) := cell_at uz 2
            have c3 : w1.cell? ⟨SB, 3, none⟩ = some (.int .i64 t.h.se) := cell_at uz 3
            have c4 : w1.cell? ⟨SB, 4, none⟩ = some (.slice (some ⟨bi, oi, none⟩) t.l.length ci) := cell_at uz 4
            go_wp2_with fail
            refine HAH.mono ?_
            rintro e w2 ⟨rfl, ⟨es3, clock3, M3⟩, L3, K3⟩
            have u3 := K3 SB _ _ _ uz (by decide)
            have HMZ : Hid (Em.Mp (b + 1) b (putA (fun _ => []) (allP (ts.take i) day ++ dayH t day (m + 1))) es3 clock3 w2) := by
              show Em.Mp _ _ _ _ _ _
              rw [dayH_succ, hy', hR, if_pos rfl, ← List.append_assoc, putA_app]
              exact M3
            have Lz3 := Lz.trans L3
            have zz3 := Nat.le_trans zz L3.size
            clear HAH c0 c1 c2 c3 c4 hfl M3 L3 K3 Mz Lz uz zz
            go_wp2
            go_roundw
            case rel => exact ⟨m + 1, es3, clock3, hmm, by first | go_num | simp, HMZ.out, Lz3, zz3, u3⟩
            case measure => simpa [intOf] using hmz
        · obtain rfl : m = 4 := by omega
          have hle : decide (y ≤ d1) = false := decide_eq_false (by omega)
          have q2a := q2.1.trans hd1'
          have q2b := q2.2.trans hd1'
          have HMZ : Hid (Em.Mp (b + 1) b (putA (fun _ => []) (allP (ts.take (i + 1)) day)) es2 clock2 wr) := by
            show Em.Mp _ _ _ _ _ _
            rw [HAT.out]
            exact Mq
          have hi2 : i + 1 ≤ ts.length := by omega
          have hi3 : ts.length - (i + 1) < ts.length - i := by omega
          clear q2 q3 hme hm Mq
          go_wp2
          go_roundw
          case rel => exact ⟨i + 1, es2, clock2, hi2, by go_num, HMZ.out, Lq, zq⟩
          case measure => simp [intOf]; exact hi3
    · obtain rfl : i = ts.length := by omega
      rw [List.take_length] at M1
      go_wp2
      go_ret
      subst hb
      exact ⟨rfl, ⟨es1, clock1, M1⟩, L1⟩

end Rd
end Go.Proofs.Ytfoccmhmgdengaa

/- The hops that the program gathers are those of the model's days. -/
namespace Go.Proofs.Ytfoccmhmgdengaa
namespace Rd
open Tn (Tr Hd St okB runsB dayBit inB z0)
set_option linter.unusedSimpArgs false
set_option linter.unusedVariables false

theorem row_eq (t : Tr) (d : Int) (a : Nat) (ha : a < t.l.length) : (t.l.drop (a + 1)).map (hopTo t (t.l.getD a z0).st d a) = rowH t.h t.l d a (t.l.length - (a + 1)) := by
  apply List.ext_getElem
  · simp [rowH]
  · intro j h1 h2
    have hj : a + 1 + j < t.l.length := by
      simp at h1
      omega
    simp only [rowH, List.getElem_map, List.getElem_range, List.getElem_drop]
    unfold hopTo mkH depAt
    simp [List.getD, ha, hj]

theorem flat_eq {α β : Type} {l : List α} {f g : α → List β} (h : ∀ x ∈ l, f x = g x) : l.flatMap f = l.flatMap g := by
  rw [List.flatMap_def, List.flatMap_def, List.map_congr_left h]

theorem runs_iff {t : Hd} {l : List St} {d : Int} (h : okB t l = true) (hd : d ≤ 99999) : runsB t l d = true ↔ 0 ≤ d ∧ dayBit t.dy d = 1 := by
  unfold runsB inB
  rw [h]
  simp
  constructor
  · rintro ⟨h1, h2⟩
    exact ⟨h1.1, by omega⟩
  · rintro ⟨h1, h2⟩
    exact ⟨⟨h1, hd⟩, by omega⟩

/-- They are the same, in the same order. -/
theorem allP_eq {ts : List Tr} {day : Int} (hok : ∀ t ∈ ts, okB t.h t.l = true) (hd : day ≤ 90000) : allP ts day = allH ts day := by
  unfold allP allH
  refine flat_eq fun t ht => ?_
  unfold dayH
  refine flat_eq fun i hi => ?_
  have hi4 := List.mem_range.1 hi
  by_cases c : 0 ≤ day - 2 + (i : Int) ∧ dayBit t.h.dy (day - 2 + (i : Int)) = 1
  · rw [if_pos c, if_pos ((runs_iff (hok t ht) (by omega)).2 c)]
    unfold allT
    exact flat_eq fun a ha => (row_eq t _ a (List.mem_range.1 ha)).symm
  · rw [if_neg c, if_neg fun h => c ((runs_iff (hok t ht) (by omega)).1 h)]

/-- What lies at a station: the hops that begin there. -/
theorem at_iff {ts : List Tr} {day : Int} (hok : ∀ t ∈ ts, okB t.h t.l = true) (hd : day ≤ 90000) (s : Int) (h : Hp) : h ∈ putA (fun _ => []) (allP ts day) s ↔ h ∈ allH ts day ∧ h.r.fr = s := by
  rw [putA_at, allP_eq hok hd, List.nil_append, List.mem_filter, decide_eq_true_eq]

/-- None sets out ahead of day 0. -/
theorem allH_pos {ts : List Tr} {day : Int} (hok : ∀ t ∈ ts, okB t.h t.l = true) : ∀ h ∈ allH ts day, 0 ≤ h.d := by
  intro h hm
  unfold allH at hm
  obtain ⟨t, ht, hm⟩ := List.mem_flatMap.1 hm
  obtain ⟨i, hi4, hm⟩ := List.mem_flatMap.1 hm
  by_cases hd : 0 ≤ day - 2 + (i : Int) ∧ dayBit t.h.dy (day - 2 + (i : Int)) = 1
  · rw [if_pos hd] at hm
    obtain ⟨a, ha, hm⟩ := List.mem_flatMap.1 hm
    obtain ⟨s, hs, rfl⟩ := List.mem_map.1 hm
    have ha' := List.mem_range.1 ha
    obtain ⟨a1, a2, a3, a4⟩ := Tn.ok_stop (hok t ht) a ha'
    show 0 ≤ 1440 * (day - 2 + (i : Int)) + depAt t a
    unfold depAt
    rw [Tn.getD_at t.l a ha']
    omega
  · rw [if_neg hd] at hm
    simp at hm

end Rd
end Go.Proofs.Ytfoccmhmgdengaa

/- Contracts of LinesOk, of the program and of its model. -/
namespace Go.Proofs.Ytfoccmhmgdengaa
namespace Tn
open Go.ChangeShapes Go.WideShapes Go.ChangeAt Go.RowKit
open Pk (new_below join_below cell_at heap_new frozen_at lt_of kept heap_old)
set_option linter.unusedSimpArgs false
set_option linter.unusedVariables false

def t0 : Tr := ⟨⟨0, 0, 0, 0⟩, []⟩

def lineB (ts : List Tr) (i : Nat) : Bool := okB (ts.getD i t0).h (ts.getD i t0).l && (decide (i = 0) || decide ((ts.getD (i - 1) t0).h.id < (ts.getD i t0).h.id))

def linesFrom (ts : List Tr) (i : Nat) : Bool := ((List.range ts.length).drop i).all (lineB ts)

def linesB (ts : List Tr) : Bool := linesFrom ts 0 && decide (ts.length ≤ 40)

theorem linesFrom_step (ts : List Tr) (i : Nat) (h : i < ts.length) : linesFrom ts i = (lineB ts i && linesFrom ts (i + 1)) := by
  unfold linesFrom
  rw [List.drop_eq_getElem_cons (by simpa using h), List.all_cons]
  simp

theorem linesFrom_end (ts : List Tr) (i : Nat) (h : ¬ i < ts.length) : linesFrom ts i = true := by
  unfold linesFrom
  rw [List.drop_eq_nil_of_le (by simp; omega)]
  rfl

theorem getT_at (ts : List Tr) (i : Nat) (h : i < ts.length) : ts.getD i t0 = ts[i] := by simp [List.getD, h]

theorem lineB_0 (ts : List Tr) (h : 0 < ts.length) : lineB ts 0 = okB ts[0].h ts[0].l := by
  unfold lineB
  rw [getT_at ts 0 h]
  simp

theorem lineB_pos (ts : List Tr) (k j : Nat) (h : k < ts.length) (hj : k = j + 1) : lineB ts k = (okB ts[k].h ts[k].l && decide ((ts[j]'(by omega)).h.id < ts[k].h.id)) := by
  subst hj
  unfold lineB
  rw [getT_at ts (j + 1) h, show j + 1 - 1 = j from rfl, getT_at ts j (by omega), decide_eq_false (by omega), Bool.false_or]

theorem lineB_no (ts : List Tr) (k : Nat) (h : k < ts.length) (hn : okB ts[k].h ts[k].l = false) : lineB ts k = false := by
  unfold lineB
  rw [getT_at ts k h, hn]
  rfl

set_option maxHeartbeats 8000000 in
theorem implLines_val (a : Option Addr) (ts : List Tr) (cap : Nat) (w : World) (hn : ts.length ≤ maxLen) (hs : ∀ i (h : i < ts.length), ts[i].l.length ≤ maxLen) (I : Trains w a ts) :
    Calls Try.prog 28 #[.slice a ts.length cap] w fun e w' => e = .returned (.bool (linesB ts)) ∧ Below w.heap.size w w' := by
  have HH : Hid (∀ i (h : i < ts.length), ts[i].l.length ≤ maxLen) := hs
  unfold maxLen at hn
  clear hs
  by_cases h40 : ts.length ≤ 40
  case neg =>
    have e40 : linesB ts = false := by unfold linesB; rw [decide_eq_false h40, Bool.and_false]
    rw [e40]
    have hd : decide ((40 : Int) < (ts.length : Int)) = true := decide_eq_true (by omega)
    clear h40 e40
    go_enter Try.func28, Try.ntmps28
    go_wp2
    go_ret
    exact ⟨rfl, Below.refl _ _⟩
  have e40 : linesB ts = linesFrom ts 0 := by unfold linesB; rw [decide_eq_true h40, Bool.and_true]
  rw [e40]
  have hd : decide ((40 : Int) < (ts.length : Int)) = false := decide_eq_false (by omega)
  have H40 : Hid (ts.length ≤ 40) := h40
  clear h40 e40
  go_enter Try.func28, Try.ntmps28
  go_wp2
  go_loopw [10] (fun i wr => ∃ k : Nat, k ≤ ts.length ∧ i = .int .i64 k ∧ Below w.heap.size w wr ∧ Hid (linesFrom ts 0 = linesFrom ts k)) (fun i _ => ts.length - (intOf i).toNat)
  case atStart => exact ⟨0, by omega, rfl, Below.refl _ _, rfl⟩
  case round =>
    obtain ⟨k, hk, rfl, L, H⟩ := hrel
    by_cases hkn : k < ts.length
    · obtain ⟨b, o, bi, oi, ci, rfl, hlt, c0, c1, c2, c3, c4, S⟩ := (I.on L).at k hkn
      have HS : Hid (_) := linesFrom_step ts k hkn
      have HN : Hid (okB ts[k].h ts[k].l = false → lineB ts k = false) := lineB_no ts k hkn
      have H0 : Hid (k = 0 → lineB ts k = okB ts[k].h ts[k].l) := by intro h; subst h; exact lineB_0 ts hkn
      have HP : Hid (∀ j : Nat, k = j + 1 → ∃ hj : j < ts.length, lineB ts k = (okB ts[k].h ts[k].l && decide (ts[j].h.id < ts[k].h.id))) := fun j e => ⟨by omega, lineB_pos ts k j hkn e⟩
      have HK : Hid (∀ w, Stops w (some ⟨bi, oi, none⟩) ts[k].l → _) := fun w h => implOk_val ts[k].h (some ⟨bi, oi, none⟩) ts[k].l ci w (HH.out k hkn) h
      generalize okB ts[k].h ts[k].l = bb at *
      generalize lineB ts k = lb at *
      generalize ts[k].l = q at *
      generalize ts[k].h = p at *
      have NB := new_below wr (trB p (some ⟨bi, oi, none⟩) q.length ci 33)
      have x := heap_new wr (trB p (some ⟨bi, oi, none⟩) q.length ci 33)
      have L6 := join_below L NB
      have SB := S.on NB
      have d0 : (wr.alloc (trB p (some ⟨bi, oi, none⟩) q.length ci 33)).cell? ⟨wr.heap.size, 0, none⟩ = some (.int .i64 p.id) := cell_at x 0
      have d1 : (wr.alloc (trB p (some ⟨bi, oi, none⟩) q.length ci 33)).cell? ⟨wr.heap.size, 1, none⟩ = some (.int .i64 p.dy) := cell_at x 1
      have d2 : (wr.alloc (trB p (some ⟨bi, oi, none⟩) q.length ci 33)).cell? ⟨wr.heap.size, 2, none⟩ = some (.int .i64 p.co) := cell_at x 2
      have d3 : (wr.alloc (trB p (some ⟨bi, oi, none⟩) q.length ci 33)).cell? ⟨wr.heap.size, 3, none⟩ = some (.int .i64 p.se) := cell_at x 3
      have d4 : (wr.alloc (trB p (some ⟨bi, oi, none⟩) q.length ci 33)).cell? ⟨wr.heap.size, 4, none⟩ = some (.slice (some ⟨bi, oi, none⟩) q.length ci) := cell_at x 4
      go_wp2
      clear NB c0 c1 c2 c3 c4 L S
      generalize wr.alloc (trB p (some ⟨bi, oi, none⟩) q.length ci 33) = W6 at *
      cases bb
      · have HE : Hid (linesFrom ts 0 = false) := by show _ = _; rw [H.out, HS.out, HN.out rfl]; rfl
        go_wp2
        refine wp_region_any (by kernel_rfl) ?_
        try (change wpAny _ _ _ _ _ _ _ (World.drew _))
        refine wpAny_ready (rs := [0]) (by kernel_rfl) (by simp) ?_
        refine AllReady.cons rfl (fun K hK => ?_) AllReady.nil
        go_simp
        refine hK _ _ ?_
        clear hK K
        refine wpAny_ready (rs := [1]) (by kernel_rfl) (by simp) ?_
        refine AllReady.cons rfl (fun K hK => ?_) AllReady.nil
        go_simp
        go_wp2_with (go_at_call 35; refine (HK.out _ ?_).mono ?_; (first | exact SB | exact SB.on ((Below.refl _ _).drew)); rintro e w1 ⟨rfl, L1⟩; have K1 : Below W6.heap.size W6 w1 := (by first | exact L1 | exact ((Below.refl _ _).drew).trans L1))
        refine wpAny_take (i := 2) (v := .bool true) rfl (by kernel_rfl) (by kernel_rfl) (by kernel_rfl) (fun _ _ _ h => h) (Or.inl ⟨by kernel_rfl, fun w => by first | (go_simp; done) | rfl⟩) ?_
        simp only [Act.put, List.getElem_toArray, List.getElem_cons_succ, List.getElem_cons_zero, List.setIfInBounds_toArray, List.set_cons_succ, List.set_cons_zero]
        refine wpAny_take (i := 3) (v := .bool true) rfl (by kernel_rfl) (by kernel_rfl) (by kernel_rfl) (fun _ _ _ h => h) (Or.inl ⟨by kernel_rfl, fun w => by first | (go_simp; done) | rfl⟩) ?_
        simp only [Act.put, List.getElem_toArray, List.getElem_cons_succ, List.getElem_cons_zero, List.setIfInBounds_toArray, List.set_cons_succ, List.set_cons_zero]
        refine wpAny_take (i := 4) (v := undef) rfl (by kernel_rfl) (by kernel_rfl) (by kernel_rfl) (fun _ _ _ h => h) (Or.inr ⟨by kernel_rfl, rfl⟩) ?_
        simp only [Act.put, List.getElem_toArray, List.getElem_cons_succ, List.getElem_cons_zero, List.setIfInBounds_toArray, List.set_cons_succ, List.set_cons_zero]
        refine wpAny_take (i := 5) (v := undef) rfl (by kernel_rfl) (by kernel_rfl) (by kernel_rfl) (fun _ _ _ h => h) (Or.inr ⟨by kernel_rfl, rfl⟩) ?_
        simp only [Act.put, List.getElem_toArray, List.getElem_cons_succ, List.getElem_cons_zero, List.setIfInBounds_toArray, List.set_cons_succ, List.set_cons_zero]
        refine wpAny_take (i := 6) (v := undef) rfl (by kernel_rfl) (by kernel_rfl) (by kernel_rfl) (fun _ _ _ h => h) (Or.inr ⟨by kernel_rfl, rfl⟩) ?_
        simp only [Act.put, List.getElem_toArray, List.getElem_cons_succ, List.getElem_cons_zero, List.setIfInBounds_toArray, List.set_cons_succ, List.set_cons_zero]
        refine wpAny_take (i := 7) (v := undef) rfl (by kernel_rfl) (by kernel_rfl) (by kernel_rfl) (fun _ _ _ h => h) (Or.inr ⟨by kernel_rfl, rfl⟩) ?_
        simp only [Act.put, List.getElem_toArray, List.getElem_cons_succ, List.getElem_cons_zero, List.setIfInBounds_toArray, List.set_cons_succ, List.set_cons_zero]
        refine wpAny_take (i := 8) (v := undef) rfl (by kernel_rfl) (by kernel_rfl) (by kernel_rfl) (fun _ _ _ h => h) (Or.inr ⟨by kernel_rfl, rfl⟩) ?_
        simp only [Act.put, List.getElem_toArray, List.getElem_cons_succ, List.getElem_cons_zero, List.setIfInBounds_toArray, List.set_cons_succ, List.set_cons_zero]
        refine wpAny_take (i := 9) (v := undef) rfl (by kernel_rfl) (by kernel_rfl) (by kernel_rfl) (fun _ _ _ h => h) (Or.inr ⟨by kernel_rfl, rfl⟩) ?_
        simp only [Act.put, List.getElem_toArray, List.getElem_cons_succ, List.getElem_cons_zero, List.setIfInBounds_toArray, List.set_cons_succ, List.set_cons_zero]
        refine wpAny_take (i := 10) (v := undef) rfl (by kernel_rfl) (by kernel_rfl) (by kernel_rfl) (fun _ _ _ h => h) (Or.inr ⟨by kernel_rfl, rfl⟩) ?_
        simp only [Act.put, List.getElem_toArray, List.getElem_cons_succ, List.getElem_cons_zero, List.setIfInBounds_toArray, List.set_cons_succ, List.set_cons_zero]
        refine wpAny_take (i := 11) (v := undef) rfl (by kernel_rfl) (by kernel_rfl) (by kernel_rfl) (fun _ _ _ h => h) (Or.inr ⟨by kernel_rfl, rfl⟩) ?_
        simp only [Act.put, List.getElem_toArray, List.getElem_cons_succ, List.getElem_cons_zero, List.setIfInBounds_toArray, List.set_cons_succ, List.set_cons_zero]
        refine wpAny_take (i := 12) (v := undef) rfl (by kernel_rfl) (by kernel_rfl) (by kernel_rfl) (fun _ _ _ h => h) (Or.inr ⟨by kernel_rfl, rfl⟩) ?_
        simp only [Act.put, List.getElem_toArray, List.getElem_cons_succ, List.getElem_cons_zero, List.setIfInBounds_toArray, List.set_cons_succ, List.set_cons_zero]
        refine wpAny_take (i := 13) (v := undef) rfl (by kernel_rfl) (by kernel_rfl) (by kernel_rfl) (fun _ _ _ h => h) (Or.inr ⟨by kernel_rfl, rfl⟩) ?_
        simp only [Act.put, List.getElem_toArray, List.getElem_cons_succ, List.getElem_cons_zero, List.setIfInBounds_toArray, List.set_cons_succ, List.set_cons_zero]
        refine wpAny_take (i := 14) (v := undef) rfl (by kernel_rfl) (by kernel_rfl) (by kernel_rfl) (fun _ _ _ h => h) (Or.inr ⟨by kernel_rfl, rfl⟩) ?_
        simp only [Act.put, List.getElem_toArray, List.getElem_cons_succ, List.getElem_cons_zero, List.setIfInBounds_toArray, List.set_cons_succ, List.set_cons_zero]
        refine wpAny_take (i := 15) (v := undef) rfl (by kernel_rfl) (by kernel_rfl) (by kernel_rfl) (fun _ _ _ h => h) (Or.inr ⟨by kernel_rfl, rfl⟩) ?_
        simp only [Act.put, List.getElem_toArray, List.getElem_cons_succ, List.getElem_cons_zero, List.setIfInBounds_toArray, List.set_cons_succ, List.set_cons_zero]
        refine wpAny_take (i := 16) (v := undef) rfl (by kernel_rfl) (by kernel_rfl) (by kernel_rfl) (fun _ _ _ h => h) (Or.inr ⟨by kernel_rfl, rfl⟩) ?_
        simp only [Act.put, List.getElem_toArray, List.getElem_cons_succ, List.getElem_cons_zero, List.setIfInBounds_toArray, List.set_cons_succ, List.set_cons_zero]
        refine wpAny_take (i := 17) (v := .bool true) rfl (by kernel_rfl) (by kernel_rfl) (by kernel_rfl) (fun _ _ _ h => h) (Or.inl ⟨by kernel_rfl, fun w => by first | (go_simp; done) | rfl⟩) ?_
        simp only [Act.put, List.getElem_toArray, List.getElem_cons_succ, List.getElem_cons_zero, List.setIfInBounds_toArray, List.set_cons_succ, List.set_cons_zero]
        refine wpAny_done (by kernel_rfl) ?_ _
        all_goals
          go_wp2
          go_ret
          exact ⟨by rw [HE.out] <;> rfl, join_below L6 K1⟩
      by_cases h0 : k = 0
      · have HE : Hid (linesFrom ts 0 = linesFrom ts (k + 1)) := by show _ = _; rw [H.out, HS.out, H0.out h0]; rfl
        have hd1 : decide ((0 : Int) < (k : Int)) = false := decide_eq_false (by omega)
        have hd2 : decide (0 < k) = false := decide_eq_false (by omega)
        clear HP H0 HN HS H
        subst h0
        go_wp2
        refine wp_region_any (by kernel_rfl) ?_
        try (change wpAny _ _ _ _ _ _ _ (World.drew _))
        refine wpAny_ready (rs := [0]) (by kernel_rfl) (by simp) ?_
        refine AllReady.cons rfl (fun K hK => ?_) AllReady.nil
        go_simp
        refine hK _ _ ?_
        clear hK K
        refine wpAny_ready (rs := [1]) (by kernel_rfl) (by simp) ?_
        refine AllReady.cons rfl (fun K hK => ?_) AllReady.nil
        go_simp
        go_wp2_with (go_at_call 35; refine (HK.out _ ?_).mono ?_; (first | exact SB | exact SB.on ((Below.refl _ _).drew)); rintro e w1 ⟨rfl, L1⟩; have K1 : Below W6.heap.size W6 w1 := (by first | exact L1 | exact ((Below.refl _ _).drew).trans L1))
        refine wpAny_take (i := 2) (v := .bool false) rfl (by kernel_rfl) (by kernel_rfl) (by kernel_rfl) (fun _ _ _ h => h) (Or.inl ⟨by kernel_rfl, fun w => by first | (go_simp; done) | rfl⟩) ?_
        simp only [Act.put, List.getElem_toArray, List.getElem_cons_succ, List.getElem_cons_zero, List.setIfInBounds_toArray, List.set_cons_succ, List.set_cons_zero]
        refine wpAny_take (i := 3) (v := .bool false) rfl (by kernel_rfl) (by kernel_rfl) (by kernel_rfl) (fun _ _ _ h => h) (Or.inl ⟨by kernel_rfl, fun w => by first | (go_simp; done) | rfl⟩) ?_
        simp only [Act.put, List.getElem_toArray, List.getElem_cons_succ, List.getElem_cons_zero, List.setIfInBounds_toArray, List.set_cons_succ, List.set_cons_zero]
        refine wpAny_take (i := 4) (v := .int .i64 0) rfl (by kernel_rfl) (by kernel_rfl) (by kernel_rfl) (fun _ _ _ h => h) (Or.inl ⟨by kernel_rfl, fun w => by first | (go_simp; done) | rfl⟩) ?_
        simp only [Act.put, List.getElem_toArray, List.getElem_cons_succ, List.getElem_cons_zero, List.setIfInBounds_toArray, List.set_cons_succ, List.set_cons_zero]
        refine wpAny_take (i := 5) (v := .bool false) rfl (by kernel_rfl) (by kernel_rfl) (by kernel_rfl) (fun _ _ _ h => h) (Or.inl ⟨by kernel_rfl, fun w => by first | (go_simp; done) | rfl⟩) ?_
        simp only [Act.put, List.getElem_toArray, List.getElem_cons_succ, List.getElem_cons_zero, List.setIfInBounds_toArray, List.set_cons_succ, List.set_cons_zero]
        refine wpAny_take (i := 6) (v := .bool false) rfl (by kernel_rfl) (by kernel_rfl) (by kernel_rfl) (fun _ _ _ h => h) (Or.inl ⟨by kernel_rfl, fun w => by first | (go_simp; done) | rfl⟩) ?_
        simp only [Act.put, List.getElem_toArray, List.getElem_cons_succ, List.getElem_cons_zero, List.setIfInBounds_toArray, List.set_cons_succ, List.set_cons_zero]
        refine wpAny_take (i := 7) (v := undef) rfl (by kernel_rfl) (by kernel_rfl) (by kernel_rfl) (fun _ _ _ h => h) (Or.inr ⟨by kernel_rfl, rfl⟩) ?_
        simp only [Act.put, List.getElem_toArray, List.getElem_cons_succ, List.getElem_cons_zero, List.setIfInBounds_toArray, List.set_cons_succ, List.set_cons_zero]
        refine wpAny_take (i := 8) (v := undef) rfl (by kernel_rfl) (by kernel_rfl) (by kernel_rfl) (fun _ _ _ h => h) (Or.inr ⟨by kernel_rfl, rfl⟩) ?_
        simp only [Act.put, List.getElem_toArray, List.getElem_cons_succ, List.getElem_cons_zero, List.setIfInBounds_toArray, List.set_cons_succ, List.set_cons_zero]
        refine wpAny_take (i := 9) (v := undef) rfl (by kernel_rfl) (by kernel_rfl) (by kernel_rfl) (fun _ _ _ h => h) (Or.inr ⟨by kernel_rfl, rfl⟩) ?_
        simp only [Act.put, List.getElem_toArray, List.getElem_cons_succ, List.getElem_cons_zero, List.setIfInBounds_toArray, List.set_cons_succ, List.set_cons_zero]
        refine wpAny_take (i := 10) (v := undef) rfl (by kernel_rfl) (by kernel_rfl) (by kernel_rfl) (fun _ _ _ h => h) (Or.inr ⟨by kernel_rfl, rfl⟩) ?_
        simp only [Act.put, List.getElem_toArray, List.getElem_cons_succ, List.getElem_cons_zero, List.setIfInBounds_toArray, List.set_cons_succ, List.set_cons_zero]
        refine wpAny_take (i := 11) (v := undef) rfl (by kernel_rfl) (by kernel_rfl) (by kernel_rfl) (fun _ _ _ h => h) (Or.inr ⟨by kernel_rfl, rfl⟩) ?_
        simp only [Act.put, List.getElem_toArray, List.getElem_cons_succ, List.getElem_cons_zero, List.setIfInBounds_toArray, List.set_cons_succ, List.set_cons_zero]
        refine wpAny_take (i := 12) (v := undef) rfl (by kernel_rfl) (by kernel_rfl) (by kernel_rfl) (fun _ _ _ h => h) (Or.inr ⟨by kernel_rfl, rfl⟩) ?_
        simp only [Act.put, List.getElem_toArray, List.getElem_cons_succ, List.getElem_cons_zero, List.setIfInBounds_toArray, List.set_cons_succ, List.set_cons_zero]
        refine wpAny_take (i := 13) (v := undef) rfl (by kernel_rfl) (by kernel_rfl) (by kernel_rfl) (fun _ _ _ h => h) (Or.inr ⟨by kernel_rfl, rfl⟩) ?_
        simp only [Act.put, List.getElem_toArray, List.getElem_cons_succ, List.getElem_cons_zero, List.setIfInBounds_toArray, List.set_cons_succ, List.set_cons_zero]
        refine wpAny_take (i := 14) (v := undef) rfl (by kernel_rfl) (by kernel_rfl) (by kernel_rfl) (fun _ _ _ h => h) (Or.inr ⟨by kernel_rfl, rfl⟩) ?_
        simp only [Act.put, List.getElem_toArray, List.getElem_cons_succ, List.getElem_cons_zero, List.setIfInBounds_toArray, List.set_cons_succ, List.set_cons_zero]
        refine wpAny_take (i := 15) (v := undef) rfl (by kernel_rfl) (by kernel_rfl) (by kernel_rfl) (fun _ _ _ h => h) (Or.inr ⟨by kernel_rfl, rfl⟩) ?_
        simp only [Act.put, List.getElem_toArray, List.getElem_cons_succ, List.getElem_cons_zero, List.setIfInBounds_toArray, List.set_cons_succ, List.set_cons_zero]
        refine wpAny_take (i := 16) (v := .bool false) rfl (by kernel_rfl) (by kernel_rfl) (by kernel_rfl) (fun _ _ _ h => h) (Or.inl ⟨by kernel_rfl, fun w => by first | (go_simp; done) | rfl⟩) ?_
        simp only [Act.put, List.getElem_toArray, List.getElem_cons_succ, List.getElem_cons_zero, List.setIfInBounds_toArray, List.set_cons_succ, List.set_cons_zero]
        refine wpAny_take (i := 17) (v := .bool false) rfl (by kernel_rfl) (by kernel_rfl) (by kernel_rfl) (fun _ _ _ h => h) (Or.inl ⟨by kernel_rfl, fun w => by first | (go_simp; done) | rfl⟩) ?_
        simp only [Act.put, List.getElem_toArray, List.getElem_cons_succ, List.getElem_cons_zero, List.setIfInBounds_toArray, List.set_cons_succ, List.set_cons_zero]
        refine wpAny_done (by kernel_rfl) ?_ _
        all_goals
          go_wp2
          go_roundw
          case rel => exact ⟨1, by omega, rfl, join_below L6 K1, HE⟩
          case measure => simp [intOf]; omega
      · obtain ⟨j, hj⟩ : ∃ j, k = j + 1 := ⟨k - 1, by omega⟩
        obtain ⟨hjl, hgap⟩ := HP.out j hj
        obtain ⟨b', o', bj, oj, cj, he, hbj, q0, -⟩ := (I.on L6).at j hjl
        simp only [Option.some.injEq, Addr.mk.injEq, and_true] at he
        obtain ⟨rfl, rfl⟩ := he
        have hd1 : decide ((0 : Int) < (k : Int)) = true := decide_eq_true (by omega)
        have hd2 : decide (0 < k) = true := decide_eq_true (by omega)
        have hji : (k : Int) - 1 = (j : Int) := by omega
        have hjw : IntKind.i64.wrap (j : Int) = (j : Int) := by rw [IntKind.wrap_i64]; omega
        generalize ts[j].h.id = u at *
        by_cases hu : u < p.id
        · have hu2 : decide (p.id ≤ u) = false := decide_eq_false (by omega)
          rw [decide_eq_true hu] at hgap
          have HE : Hid (linesFrom ts 0 = linesFrom ts (k + 1)) := by show _ = _; rw [H.out, HS.out, hgap]; rfl
          have HJ : Hid (_) := hj
          clear hgap hj h0 H HS HP H0 HN
          go_wp2
          refine wp_region_any (by kernel_rfl) ?_
          try (change wpAny _ _ _ _ _ _ _ (World.drew _))
          refine wpAny_ready (rs := [0]) (by kernel_rfl) (by simp) ?_
          refine AllReady.cons rfl (fun K hK => ?_) AllReady.nil
          go_simp
          refine hK _ _ ?_
          clear hK K
          refine wpAny_ready (rs := [1]) (by kernel_rfl) (by simp) ?_
          refine AllReady.cons rfl (fun K hK => ?_) AllReady.nil
          go_simp
          go_wp2_with (go_at_call 35; refine (HK.out _ ?_).mono ?_; (first | exact SB | exact SB.on ((Below.refl _ _).drew)); rintro e w1 ⟨rfl, L1⟩; have K1 : Below W6.heap.size W6 w1 := (by first | exact L1 | exact ((Below.refl _ _).drew).trans L1); have x1 := kept K1 (lt_of x) x; have y0 : w1.cell? ⟨wr.heap.size, 0, none⟩ = some (.int .i64 p.id) := cell_at x1 0; have y1 : w1.cell? ⟨b, o + j * 5, none⟩ = some (.int .i64 u) := (K1.cell (p := ⟨b, o + j * 5, none⟩) hbj).trans q0)
          refine wpAny_take (i := 2) (v := .bool false) rfl (by kernel_rfl) (by kernel_rfl) (by kernel_rfl) (fun _ _ _ h => h) (Or.inl ⟨by kernel_rfl, fun w => by first | (go_simp; done) | rfl⟩) ?_
          simp only [Act.put, List.getElem_toArray, List.getElem_cons_succ, List.getElem_cons_zero, List.setIfInBounds_toArray, List.set_cons_succ, List.set_cons_zero]
          refine wpAny_take (i := 3) (v := .bool false) rfl (by kernel_rfl) (by kernel_rfl) (by kernel_rfl) (fun _ _ _ h => h) (Or.inl ⟨by kernel_rfl, fun w => by first | (go_simp; done) | rfl⟩) ?_
          simp only [Act.put, List.getElem_toArray, List.getElem_cons_succ, List.getElem_cons_zero, List.setIfInBounds_toArray, List.set_cons_succ, List.set_cons_zero]
          refine wpAny_take (i := 4) (v := .int .i64 k) rfl (by kernel_rfl) (by kernel_rfl) (by kernel_rfl) (fun _ _ _ h => h) (Or.inl ⟨by kernel_rfl, fun w => by first | (go_simp; done) | rfl⟩) ?_
          simp only [Act.put, List.getElem_toArray, List.getElem_cons_succ, List.getElem_cons_zero, List.setIfInBounds_toArray, List.set_cons_succ, List.set_cons_zero]
          refine wpAny_take (i := 5) (v := .bool true) rfl (by kernel_rfl) (by kernel_rfl) (by kernel_rfl) (fun _ _ _ h => h) (Or.inl ⟨by kernel_rfl, fun w => by first | (go_simp; done) | rfl⟩) ?_
          simp only [Act.put, List.getElem_toArray, List.getElem_cons_succ, List.getElem_cons_zero, List.setIfInBounds_toArray, List.set_cons_succ, List.set_cons_zero]
          refine wpAny_take (i := 6) (v := .bool true) rfl (by kernel_rfl) (by kernel_rfl) (by kernel_rfl) (fun _ _ _ h => h) (Or.inl ⟨by kernel_rfl, fun w => by first | (go_simp; done) | rfl⟩) ?_
          simp only [Act.put, List.getElem_toArray, List.getElem_cons_succ, List.getElem_cons_zero, List.setIfInBounds_toArray, List.set_cons_succ, List.set_cons_zero]
          refine wpAny_take (i := 7) (v := .pointer (some ⟨wr.heap.size, 0, none⟩)) rfl (by kernel_rfl) (by kernel_rfl) (by kernel_rfl) (fun _ _ _ h => h) (Or.inl ⟨by kernel_rfl, fun w => by first | (go_simp; done) | rfl⟩) ?_
          simp only [Act.put, List.getElem_toArray, List.getElem_cons_succ, List.getElem_cons_zero, List.setIfInBounds_toArray, List.set_cons_succ, List.set_cons_zero]
          refine wpAny_take (i := 9) (v := .slice (some ⟨b, o, none⟩) ts.length cap) rfl (by kernel_rfl) (by kernel_rfl) (by kernel_rfl) (fun _ _ _ h => h) (Or.inl ⟨by kernel_rfl, fun w => by first | (go_simp; done) | rfl⟩) ?_
          simp only [Act.put, List.getElem_toArray, List.getElem_cons_succ, List.getElem_cons_zero, List.setIfInBounds_toArray, List.set_cons_succ, List.set_cons_zero]
          refine wpAny_take (i := 10) (v := .int .i64 k) rfl (by kernel_rfl) (by kernel_rfl) (by kernel_rfl) (fun _ _ _ h => h) (Or.inl ⟨by kernel_rfl, fun w => by first | (go_simp; done) | rfl⟩) ?_
          simp only [Act.put, List.getElem_toArray, List.getElem_cons_succ, List.getElem_cons_zero, List.setIfInBounds_toArray, List.set_cons_succ, List.set_cons_zero]
          refine wpAny_take (i := 11) (v := .int .i64 j) rfl (by kernel_rfl) (by kernel_rfl) (by kernel_rfl) (fun _ _ _ h => h) (Or.inl ⟨by kernel_rfl, fun w => by first | (go_simp; done) | rfl⟩) ?_
          simp only [Act.put, List.getElem_toArray, List.getElem_cons_succ, List.getElem_cons_zero, List.setIfInBounds_toArray, List.set_cons_succ, List.set_cons_zero]
          refine wpAny_take (i := 12) (v := .pointer (some ⟨b, o + j * 5, none⟩)) rfl (by kernel_rfl) (by kernel_rfl) (by kernel_rfl) (fun _ _ _ h => h) (Or.inl ⟨by kernel_rfl, fun w => by first | (go_simp; done) | rfl⟩) ?_
          simp only [Act.put, List.getElem_toArray, List.getElem_cons_succ, List.getElem_cons_zero, List.setIfInBounds_toArray, List.set_cons_succ, List.set_cons_zero]
          refine wpAny_take (i := 13) (v := .pointer (some ⟨b, o + j * 5, none⟩)) rfl (by kernel_rfl) (by kernel_rfl) (by kernel_rfl) (fun _ _ _ h => h) (Or.inl ⟨by kernel_rfl, fun w => by first | (go_simp; done) | rfl⟩) ?_
          simp only [Act.put, List.getElem_toArray, List.getElem_cons_succ, List.getElem_cons_zero, List.setIfInBounds_toArray, List.set_cons_succ, List.set_cons_zero]
          refine wpAny_ready (rs := [8, 14]) (by kernel_rfl) (by simp) ?_
          refine AllReady.cons rfl (fun K hK => ?_) (AllReady.cons rfl (fun K hK => ?_) AllReady.nil)
          · go_simp
            refine hK _ _ ?_
            clear hK K
            refine wpAny_ready (rs := [14]) (by kernel_rfl) (by simp) ?_
            refine AllReady.cons rfl (fun K hK => ?_) AllReady.nil
            go_simp
            refine hK _ _ ?_
            clear hK K
            refine wpAny_take (i := 15) (v := .bool false) rfl (by kernel_rfl) (by kernel_rfl) (by kernel_rfl) (fun _ _ _ h => h) (Or.inl ⟨by kernel_rfl, fun w => by first | (go_simp; done) | rfl⟩) ?_
            simp only [Act.put, List.getElem_toArray, List.getElem_cons_succ, List.getElem_cons_zero, List.setIfInBounds_toArray, List.set_cons_succ, List.set_cons_zero]
            refine wpAny_take (i := 16) (v := .bool false) rfl (by kernel_rfl) (by kernel_rfl) (by kernel_rfl) (fun _ _ _ h => h) (Or.inl ⟨by kernel_rfl, fun w => by first | (go_simp; done) | rfl⟩) ?_
            simp only [Act.put, List.getElem_toArray, List.getElem_cons_succ, List.getElem_cons_zero, List.setIfInBounds_toArray, List.set_cons_succ, List.set_cons_zero]
            refine wpAny_take (i := 17) (v := .bool false) rfl (by kernel_rfl) (by kernel_rfl) (by kernel_rfl) (fun _ _ _ h => h) (Or.inl ⟨by kernel_rfl, fun w => by first | (go_simp; done) | rfl⟩) ?_
            simp only [Act.put, List.getElem_toArray, List.getElem_cons_succ, List.getElem_cons_zero, List.setIfInBounds_toArray, List.set_cons_succ, List.set_cons_zero]
            refine wpAny_done (by kernel_rfl) ?_ _
            go_wp2
            go_roundw
            case rel => exact ⟨k + 1, by omega, by go_num, join_below L6 K1, HE⟩
            case measure => simp [intOf]; omega
          · go_simp
            refine hK _ _ ?_
            clear hK K
            refine wpAny_ready (rs := [8]) (by kernel_rfl) (by simp) ?_
            refine AllReady.cons rfl (fun K hK => ?_) AllReady.nil
            go_simp
            refine hK _ _ ?_
            clear hK K
            refine wpAny_take (i := 15) (v := .bool false) rfl (by kernel_rfl) (by kernel_rfl) (by kernel_rfl) (fun _ _ _ h => h) (Or.inl ⟨by kernel_rfl, fun w => by first | (go_simp; done) | rfl⟩) ?_
            simp only [Act.put, List.getElem_toArray, List.getElem_cons_succ, List.getElem_cons_zero, List.setIfInBounds_toArray, List.set_cons_succ, List.set_cons_zero]
            refine wpAny_take (i := 16) (v := .bool false) rfl (by kernel_rfl) (by kernel_rfl) (by kernel_rfl) (fun _ _ _ h => h) (Or.inl ⟨by kernel_rfl, fun w => by first | (go_simp; done) | rfl⟩) ?_
            simp only [Act.put, List.getElem_toArray, List.getElem_cons_succ, List.getElem_cons_zero, List.setIfInBounds_toArray, List.set_cons_succ, List.set_cons_zero]
            refine wpAny_take (i := 17) (v := .bool false) rfl (by kernel_rfl) (by kernel_rfl) (by kernel_rfl) (fun _ _ _ h => h) (Or.inl ⟨by kernel_rfl, fun w => by first | (go_simp; done) | rfl⟩) ?_
            simp only [Act.put, List.getElem_toArray, List.getElem_cons_succ, List.getElem_cons_zero, List.setIfInBounds_toArray, List.set_cons_succ, List.set_cons_zero]
            refine wpAny_done (by kernel_rfl) ?_ _
            go_wp2
            go_roundw
            case rel => exact ⟨k + 1, by omega, by go_num, join_below L6 K1, HE⟩
            case measure => simp [intOf]; omega
        · have hu2 : decide (p.id ≤ u) = true := decide_eq_true (by omega)
          rw [decide_eq_false hu] at hgap
          have HE : Hid (linesFrom ts 0 = false) := by show _ = _; rw [H.out, HS.out, hgap]; rfl
          have HJ : Hid (_) := hj
          clear hgap hj h0 H HS HP H0 HN
          go_wp2
          refine wp_region_any (by kernel_rfl) ?_
          try (change wpAny _ _ _ _ _ _ _ (World.drew _))
          refine wpAny_ready (rs := [0]) (by kernel_rfl) (by simp) ?_
          refine AllReady.cons rfl (fun K hK => ?_) AllReady.nil
          go_simp
          refine hK _ _ ?_
          clear hK K
          refine wpAny_ready (rs := [1]) (by kernel_rfl) (by simp) ?_
          refine AllReady.cons rfl (fun K hK => ?_) AllReady.nil
          go_simp
          go_wp2_with (go_at_call 35; refine (HK.out _ ?_).mono ?_; (first | exact SB | exact SB.on ((Below.refl _ _).drew)); rintro e w1 ⟨rfl, L1⟩; have K1 : Below W6.heap.size W6 w1 := (by first | exact L1 | exact ((Below.refl _ _).drew).trans L1); have x1 := kept K1 (lt_of x) x; have y0 : w1.cell? ⟨wr.heap.size, 0, none⟩ = some (.int .i64 p.id) := cell_at x1 0; have y1 : w1.cell? ⟨b, o + j * 5, none⟩ = some (.int .i64 u) := (K1.cell (p := ⟨b, o + j * 5, none⟩) hbj).trans q0)
          refine wpAny_take (i := 2) (v := .bool false) rfl (by kernel_rfl) (by kernel_rfl) (by kernel_rfl) (fun _ _ _ h => h) (Or.inl ⟨by kernel_rfl, fun w => by first | (go_simp; done) | rfl⟩) ?_
          simp only [Act.put, List.getElem_toArray, List.getElem_cons_succ, List.getElem_cons_zero, List.setIfInBounds_toArray, List.set_cons_succ, List.set_cons_zero]
          refine wpAny_take (i := 3) (v := .bool false) rfl (by kernel_rfl) (by kernel_rfl) (by kernel_rfl) (fun _ _ _ h => h) (Or.inl ⟨by kernel_rfl, fun w => by first | (go_simp; done) | rfl⟩) ?_
          simp only [Act.put, List.getElem_toArray, List.getElem_cons_succ, List.getElem_cons_zero, List.setIfInBounds_toArray, List.set_cons_succ, List.set_cons_zero]
          refine wpAny_take (i := 4) (v := .int .i64 k) rfl (by kernel_rfl) (by kernel_rfl) (by kernel_rfl) (fun _ _ _ h => h) (Or.inl ⟨by kernel_rfl, fun w => by first | (go_simp; done) | rfl⟩) ?_
          simp only [Act.put, List.getElem_toArray, List.getElem_cons_succ, List.getElem_cons_zero, List.setIfInBounds_toArray, List.set_cons_succ, List.set_cons_zero]
          refine wpAny_take (i := 5) (v := .bool true) rfl (by kernel_rfl) (by kernel_rfl) (by kernel_rfl) (fun _ _ _ h => h) (Or.inl ⟨by kernel_rfl, fun w => by first | (go_simp; done) | rfl⟩) ?_
          simp only [Act.put, List.getElem_toArray, List.getElem_cons_succ, List.getElem_cons_zero, List.setIfInBounds_toArray, List.set_cons_succ, List.set_cons_zero]
          refine wpAny_take (i := 6) (v := .bool true) rfl (by kernel_rfl) (by kernel_rfl) (by kernel_rfl) (fun _ _ _ h => h) (Or.inl ⟨by kernel_rfl, fun w => by first | (go_simp; done) | rfl⟩) ?_
          simp only [Act.put, List.getElem_toArray, List.getElem_cons_succ, List.getElem_cons_zero, List.setIfInBounds_toArray, List.set_cons_succ, List.set_cons_zero]
          refine wpAny_take (i := 7) (v := .pointer (some ⟨wr.heap.size, 0, none⟩)) rfl (by kernel_rfl) (by kernel_rfl) (by kernel_rfl) (fun _ _ _ h => h) (Or.inl ⟨by kernel_rfl, fun w => by first | (go_simp; done) | rfl⟩) ?_
          simp only [Act.put, List.getElem_toArray, List.getElem_cons_succ, List.getElem_cons_zero, List.setIfInBounds_toArray, List.set_cons_succ, List.set_cons_zero]
          refine wpAny_take (i := 9) (v := .slice (some ⟨b, o, none⟩) ts.length cap) rfl (by kernel_rfl) (by kernel_rfl) (by kernel_rfl) (fun _ _ _ h => h) (Or.inl ⟨by kernel_rfl, fun w => by first | (go_simp; done) | rfl⟩) ?_
          simp only [Act.put, List.getElem_toArray, List.getElem_cons_succ, List.getElem_cons_zero, List.setIfInBounds_toArray, List.set_cons_succ, List.set_cons_zero]
          refine wpAny_take (i := 10) (v := .int .i64 k) rfl (by kernel_rfl) (by kernel_rfl) (by kernel_rfl) (fun _ _ _ h => h) (Or.inl ⟨by kernel_rfl, fun w => by first | (go_simp; done) | rfl⟩) ?_
          simp only [Act.put, List.getElem_toArray, List.getElem_cons_succ, List.getElem_cons_zero, List.setIfInBounds_toArray, List.set_cons_succ, List.set_cons_zero]
          refine wpAny_take (i := 11) (v := .int .i64 j) rfl (by kernel_rfl) (by kernel_rfl) (by kernel_rfl) (fun _ _ _ h => h) (Or.inl ⟨by kernel_rfl, fun w => by first | (go_simp; done) | rfl⟩) ?_
          simp only [Act.put, List.getElem_toArray, List.getElem_cons_succ, List.getElem_cons_zero, List.setIfInBounds_toArray, List.set_cons_succ, List.set_cons_zero]
          refine wpAny_take (i := 12) (v := .pointer (some ⟨b, o + j * 5, none⟩)) rfl (by kernel_rfl) (by kernel_rfl) (by kernel_rfl) (fun _ _ _ h => h) (Or.inl ⟨by kernel_rfl, fun w => by first | (go_simp; done) | rfl⟩) ?_
          simp only [Act.put, List.getElem_toArray, List.getElem_cons_succ, List.getElem_cons_zero, List.setIfInBounds_toArray, List.set_cons_succ, List.set_cons_zero]
          refine wpAny_take (i := 13) (v := .pointer (some ⟨b, o + j * 5, none⟩)) rfl (by kernel_rfl) (by kernel_rfl) (by kernel_rfl) (fun _ _ _ h => h) (Or.inl ⟨by kernel_rfl, fun w => by first | (go_simp; done) | rfl⟩) ?_
          simp only [Act.put, List.getElem_toArray, List.getElem_cons_succ, List.getElem_cons_zero, List.setIfInBounds_toArray, List.set_cons_succ, List.set_cons_zero]
          refine wpAny_ready (rs := [8, 14]) (by kernel_rfl) (by simp) ?_
          refine AllReady.cons rfl (fun K hK => ?_) (AllReady.cons rfl (fun K hK => ?_) AllReady.nil)
          · go_simp
            refine hK _ _ ?_
            clear hK K
            refine wpAny_ready (rs := [14]) (by kernel_rfl) (by simp) ?_
            refine AllReady.cons rfl (fun K hK => ?_) AllReady.nil
            go_simp
            refine hK _ _ ?_
            clear hK K
            refine wpAny_take (i := 15) (v := .bool true) rfl (by kernel_rfl) (by kernel_rfl) (by kernel_rfl) (fun _ _ _ h => h) (Or.inl ⟨by kernel_rfl, fun w => by first | (go_simp; done) | rfl⟩) ?_
            simp only [Act.put, List.getElem_toArray, List.getElem_cons_succ, List.getElem_cons_zero, List.setIfInBounds_toArray, List.set_cons_succ, List.set_cons_zero]
            refine wpAny_take (i := 16) (v := .bool true) rfl (by kernel_rfl) (by kernel_rfl) (by kernel_rfl) (fun _ _ _ h => h) (Or.inl ⟨by kernel_rfl, fun w => by first | (go_simp; done) | rfl⟩) ?_
            simp only [Act.put, List.getElem_toArray, List.getElem_cons_succ, List.getElem_cons_zero, List.setIfInBounds_toArray, List.set_cons_succ, List.set_cons_zero]
            refine wpAny_take (i := 17) (v := .bool true) rfl (by kernel_rfl) (by kernel_rfl) (by kernel_rfl) (fun _ _ _ h => h) (Or.inl ⟨by kernel_rfl, fun w => by first | (go_simp; done) | rfl⟩) ?_
            simp only [Act.put, List.getElem_toArray, List.getElem_cons_succ, List.getElem_cons_zero, List.setIfInBounds_toArray, List.set_cons_succ, List.set_cons_zero]
            refine wpAny_done (by kernel_rfl) ?_ _
            go_wp2
            go_ret
            exact ⟨by rw [HE.out] <;> rfl, join_below L6 K1⟩
          · go_simp
            refine hK _ _ ?_
            clear hK K
            refine wpAny_ready (rs := [8]) (by kernel_rfl) (by simp) ?_
            refine AllReady.cons rfl (fun K hK => ?_) AllReady.nil
            go_simp
            refine hK _ _ ?_
            clear hK K
            refine wpAny_take (i := 15) (v := .bool true) rfl (by kernel_rfl) (by kernel_rfl) (by kernel_rfl) (fun _ _ _ h => h) (Or.inl ⟨by kernel_rfl, fun w => by first | (go_simp; done) | rfl⟩) ?_
            simp only [Act.put, List.getElem_toArray, List.getElem_cons_succ, List.getElem_cons_zero, List.setIfInBounds_toArray, List.set_cons_succ, List.set_cons_zero]
            refine wpAny_take (i := 16) (v := .bool true) rfl (by kernel_rfl) (by kernel_rfl) (by kernel_rfl) (fun _ _ _ h => h) (Or.inl ⟨by kernel_rfl, fun w => by first | (go_simp; done) | rfl⟩) ?_
            simp only [Act.put, List.getElem_toArray, List.getElem_cons_succ, List.getElem_cons_zero, List.setIfInBounds_toArray, List.set_cons_succ, List.set_cons_zero]
            refine wpAny_take (i := 17) (v := .bool true) rfl (by kernel_rfl) (by kernel_rfl) (by kernel_rfl) (fun _ _ _ h => h) (Or.inl ⟨by kernel_rfl, fun w => by first | (go_simp; done) | rfl⟩) ?_
            simp only [Act.put, List.getElem_toArray, List.getElem_cons_succ, List.getElem_cons_zero, List.setIfInBounds_toArray, List.set_cons_succ, List.set_cons_zero]
            refine wpAny_done (by kernel_rfl) ?_ _
            go_wp2
            go_ret
            exact ⟨by rw [HE.out] <;> rfl, join_below L6 K1⟩
    · have HE : Hid (linesFrom ts 0 = true) := by show _ = _; rw [H.out, linesFrom_end ts k hkn]
      go_wp2
      go_ret
      exact ⟨by rw [HE.out] <;> rfl, L⟩

end Tn
end Go.Proofs.Ytfoccmhmgdengaa

/- The mathematics of the model's Earliest: what is picked of six layers, over ways as they lie. -/
namespace Go.Proofs.Ytfoccmhmgdengaa
namespace Rd
open Go.ChangeShapes Go.WideShapes Go.ChangeAt Go.RowKit
open Tn (Tr St idx dayBit z0 okB)
set_option linter.unusedSimpArgs false
set_option linter.unusedVariables false

theorem lines_ok {ts : List Tr} (h : Tn.linesB ts = true) : ts.length ≤ 40 ∧ ∀ t ∈ ts, okB t.h t.l = true := by
  unfold Tn.linesB at h
  rw [Bool.and_eq_true] at h
  refine ⟨of_decide_eq_true h.2, fun t ht => ?_⟩
  obtain ⟨i, hi, rfl⟩ := List.getElem_of_mem ht
  have h1 := h.1
  unfold Tn.linesFrom at h1
  rw [List.all_eq_true] at h1
  have h2 := h1 i (by simpa using hi)
  unfold Tn.lineB at h2
  rw [Tn.getT_at ts i hi] at h2
  simp only [Bool.and_eq_true] at h2
  first | exact h2.1 | exact h2.2

/-- Whether Earliest answers at all. -/
def earB (ts : List Tr) (fr tu day mi : Int) : Bool := Tn.linesB ts && (!(fr == tu) && (Tn.inB day 0 90000 && Tn.inB mi 0 1439))

/-- A way that ends there is taken where none was, or where it arrives sooner. -/
def betterP (tu : Int) (b : Option Pw) (q : Pw) : Option Pw := if q.o.s = tu ∧ (∀ v, b = some v → q.o.z < v.o.z) then some q else b

theorem betterP_o (tu : Int) (b : Option Pw) (q : Pw) : (betterP tu b q).map (·.o) = better tu (b.map (·.o)) q.o := by
  unfold betterP better
  have e : (q.o.s = tu ∧ (∀ v, b = some v → q.o.z < v.o.z)) ↔ (q.o.s = tu ∧ (∀ v, b.map (·.o) = some v → q.o.z < v.z)) := by
    constructor
    · rintro ⟨h1, h2⟩
      refine ⟨h1, fun v hv => ?_⟩
      cases b with
      | none => cases hv
      | some p => simp only [Option.map_some, Option.some.injEq] at hv; rw [← hv]; exact h2 p rfl
    · rintro ⟨h1, h2⟩
      refine ⟨h1, fun v hv => ?_⟩
      rw [hv] at h2
      exact h2 v.o rfl
  by_cases h : q.o.s = tu ∧ (∀ v, b = some v → q.o.z < v.o.z)
  · rw [if_pos h, if_pos (e.1 h)]; rfl
  · rw [if_neg h, if_neg (fun g => h (e.2 g))]

theorem foldP_o (tu : Int) (ps : List Pw) (b : Option Pw) : (ps.foldl (betterP tu) b).map (·.o) = (ps.map (·.o)).foldl (better tu) (b.map (·.o)) := by
  induction ps generalizing b with
  | nil => rfl
  | cons p ps ih => rw [List.foldl_cons, ih, List.map_cons, List.foldl_cons, betterP_o]

theorem foldP_mem (tu : Int) (ps : List Pw) (b : Option Pw) (q : Pw) (h : ps.foldl (betterP tu) b = some q) : b = some q ∨ q ∈ ps := by
  induction ps generalizing b with
  | nil => exact Or.inl h
  | cons p ps ih =>
    rw [List.foldl_cons] at h
    rcases ih _ h with h | h
    · unfold betterP at h
      by_cases c : p.o.s = tu ∧ (∀ v, b = some v → p.o.z < v.o.z)
      · rw [if_pos c] at h
        simp only [Option.some.injEq] at h
        exact Or.inr (by rw [h]; exact List.mem_cons_self)
      · rw [if_neg c] at h
        exact Or.inl h
    · exact Or.inr (List.mem_cons_of_mem _ h)

theorem fold_take (tu : Int) (ps : List Pw) (b : Option Pw) (i : Nat) (h : i < ps.length) : (ps.take (i + 1)).foldl (betterP tu) b = betterP tu ((ps.take i).foldl (betterP tu) b) ps[i] := by
  rw [List.take_succ_eq_append_getElem h, List.foldl_append]
  rfl

/-- The ways of a layer, as they lie, within bounds. -/
structure Lay (ts : List Tr) (day first fr : Int) (n : Nat) (ps : List Pw) : Prop where
  lay : Layer (allH ts day) fr first n (ps.map (·.o))
  uniq : Uniq (ps.map (·.o))
  len : ps.length ≤ 3200
  bd : ∀ p ∈ ps, p.o.p.length = n ∧ 0 ≤ p.o.z ∧ p.o.z ≤ 200000000 ∧ (p.o.p.length = 0 → p.r = .slice none 0 0)

theorem lay_0 (ts : List Tr) (day first fr : Int) : Lay ts day first fr 0 [⟨none, 0, ⟨[], fr, 0⟩⟩] :=
  ⟨layer_0 _ _ _ _, by unfold Uniq; simp, by simp, fun p hp => by obtain rfl := List.mem_singleton.1 hp; exact ⟨rfl, Int.le_refl _, by show (0 : Int) ≤ _; omega, fun _ => rfl⟩⟩

theorem Lay.next {ts : List Tr} {day first fr : Int} {n : Nat} {ps qs : List Pw} (h : Lay ts day first fr n ps) (hok : ∀ t ∈ ts, okB t.h t.l = true) (hn : ts.length ≤ 40) (hd : day ≤ 90000) (e : qs.map (·.o) = keepAll [] (nextOf (more ts day first) (ps.map (·.o)))) : Lay ts day first fr (n + 1) qs := by
  have hm : ∀ w, w ∈ ps.map (·.o) → ∀ x, x ∈ more ts day first w ↔ x ∈ allH ts day ∧ x.r.fr = w.s ∧ endY first w.p ≤ x.d := by
    intro w hw x
    rw [more_iff hok x]
    have ha : ahead first w = endY first w.p := by
      obtain ⟨-, h2, -, h4⟩ := h.lay.1 w hw
      unfold ahead
      by_cases h0 : w.p.length = 0
      · rw [if_pos h0, List.eq_nil_of_length_eq_zero h0]; rfl
      · rw [if_neg h0, h4 (by omega)]
    rw [ha]
  have hE : ∀ c ∈ nextOf (more ts day first) (ps.map (·.o)), (c.s, c.z) ∈ ends ts day ∧ 0 ≤ c.z ∧ c.z ≤ 200000000 ∧ c.p.length = n + 1 := by
    intro x hx
    unfold nextOf at hx
    obtain ⟨u, hu, hx⟩ := List.mem_flatMap.1 hx
    obtain ⟨y, hy, rfl⟩ := List.mem_map.1 hx
    obtain ⟨e1, t, ht, s, hs, d, q1, q2, q3, q4⟩ := more_end hok hy
    obtain ⟨k, hk, rfl⟩ := List.getElem_of_mem hs
    have q5 := Tn.tok_stop (hok t ht) k hk
    obtain ⟨p, hp, rfl⟩ := List.mem_map.1 hu
    have hl := (h.bd p hp).1
    exact ⟨e1, by show 0 ≤ y.z; omega, by show y.z ≤ 200000000; omega, by show (p.o.p ++ [y]).length = n + 1; simp [hl]⟩
  have hmem : ∀ c ∈ qs.map (·.o), c ∈ nextOf (more ts day first) (ps.map (·.o)) := by
    intro c hc
    rw [e] at hc
    rcases keepAll_mem hc with hc | hc
    · cases hc
    · exact hc
  have hu : Uniq (qs.map (·.o)) := by rw [e]; exact keepAll_uniq List.Pairwise.nil _
  refine ⟨by rw [e]; exact layer_next h.lay (more ts day first) hm, hu, ?_, fun p hp => ?_⟩
  · have := nodup_le ((qs.map (·.o)).map fun w => (w.s, w.z)) (ends ts day) (uniq_pairs hu) fun x hx => by
      obtain ⟨c, hc, rfl⟩ := List.mem_map.1 hx
      exact (hE c (hmem c hc)).1
    have h2 := ends_le (ts := ts) (day := day) hn fun t ht => (Tn.tok_len (hok t ht)).2
    simp only [List.length_map] at this
    omega
  · obtain ⟨-, b1, b2, b3⟩ := hE p.o (hmem p.o (List.mem_map.2 ⟨p, hp, rfl⟩))
    exact ⟨b3, b1, b2, fun h0 => by omega⟩

/-- What has been picked of the layers so far. -/
structure Pick (ts : List Tr) (day first fr tu : Int) (n : Nat) (b : Option Pw) : Prop where
  picked : Picked (allH ts day) fr first tu n (b.map (·.o))
  bd : ∀ p, b = some p → 1 ≤ p.o.p.length ∧ p.o.p.length ≤ 6 ∧ 0 ≤ p.o.z ∧ p.o.z ≤ 200000000

theorem pick_0 (ts : List Tr) (day first fr tu : Int) : Pick ts day first fr tu 0 none := ⟨picked_0 _ _ _ _, fun p hp => by cases hp⟩

theorem Pick.next {ts : List Tr} {day first fr tu : Int} {n : Nat} {b : Option Pw} {ps : List Pw} (P : Pick ts day first fr tu n b) (L : Lay ts day first fr (n + 1) ps) (hn : n < 6) : Pick ts day first fr tu (n + 1) (ps.foldl (betterP tu) b) := by
  refine ⟨by rw [foldP_o]; exact picked_next P.picked L.lay L.uniq, fun p hp => ?_⟩
  rcases foldP_mem tu ps b p hp with h | h
  · exact P.bd p h
  · obtain ⟨b1, b2, b3, -⟩ := L.bd p h
    omega

/-- What Earliest tells: the best journey, or none. -/
def Told (ts : List Tr) (fr tu day mi : Int) (rs : List Ri) (z : Int) (b : Bool) : Prop :=
  (b = true ∧ earB ts fr tu day mi = true ∧ ∃ p, isBest (allH ts day) fr (1440 * day + mi) tu p ∧ endY (1440 * day + mi) p = z + 3 ∧ rs = ridesOf p) ∨
  (b = false ∧ rs = [] ∧ z = 0 ∧ (earB ts fr tu day mi = true → ∀ q, ¬ isTrip (allH ts day) fr (1440 * day + mi) tu q))

/-- It is told in one way. -/
theorem told_one {ts : List Tr} {fr tu day mi : Int} {rs rs' : List Ri} {z z' : Int} {b b' : Bool} (h : Told ts fr tu day mi rs z b) (h' : Told ts fr tu day mi rs' z' b') : rs = rs' ∧ z = z' ∧ b = b' := by
  rcases h with ⟨rfl, e, p, h1, h2, rfl⟩ | ⟨rfl, rfl, rfl, h1⟩
  · rcases h' with ⟨rfl, e', p', h1', h2', rfl⟩ | ⟨rfl, rfl, rfl, h1'⟩
    · obtain ⟨q1, q2⟩ := best_one h1 h1'
      exact ⟨q2, by omega, rfl⟩
    · exact absurd h1.1 (h1' e p)
  · rcases h' with ⟨rfl, e', p', h1', h2', rfl⟩ | ⟨rfl, rfl, rfl, h1'⟩
    · exact absurd h1'.1 (h1 e' p')
    · exact ⟨rfl, rfl, rfl⟩

theorem Pick.told {ts : List Tr} {day fr tu mi : Int} {b : Option Pw} (P : Pick ts day (1440 * day + mi) fr tu 6 b) (he : earB ts fr tu day mi = true) : (b = none → Told ts fr tu day mi [] 0 false) ∧ ∀ p, b = some p → Told ts fr tu day mi (ridesOf p.o.p) p.o.z true := by
  obtain ⟨h1, h2⟩ := picked_best P.picked
  refine ⟨fun hb => Or.inr ⟨rfl, rfl, rfl, fun _ => h1 (by rw [hb]; rfl)⟩, fun p hb => ?_⟩
  obtain ⟨q1, q2⟩ := h2 p.o (by rw [hb]; rfl)
  exact Or.inl ⟨rfl, he, p.o.p, q1, q2, rfl⟩

end Rd
end Go.Proofs.Ytfoccmhmgdengaa

/- Hops of the days: none arrives before it sets out, and one ride is one hop. -/
namespace Go.Proofs.Ytfoccmhmgdengaa
namespace Rd
open Tn (Tr Hd St okB runsB dayBit inB z0)
set_option linter.unusedSimpArgs false
set_option linter.unusedVariables false

/-- A later stop is reached behind the leaving of an earlier one. -/
theorem gap_up {t : Hd} {l : List St} (h : okB t l = true) (a : Nat) : ∀ b (ha : a < b) (hb : b < l.length), (l[a]'(by omega)).dp < l[b].ar
  | 0, ha, hb => absurd ha (by omega)
  | b + 1, ha, hb => by
    have hs := Tn.ok_step h (b + 1) hb
    rw [Tn.stepB_at l (b + 1) hb, Tn.gapB_pos l (b + 1) b hb rfl] at hs
    simp only [Bool.and_eq_true, decide_eq_true_eq] at hs
    have h1 := hs.2
    by_cases e : a = b
    · subst e
      exact h1
    · have h2 := gap_up h a b (by omega) (by omega)
      have h3 := (Tn.ok_stop h b (by omega)).2.2.1
      omega

/-- What a hop is made of. -/
theorem allH_parts {ts : List Tr} {day : Int} {h : Hp} (hm : h ∈ allH ts day) : ∃ t ∈ ts, ∃ (d : Int) (a b : Nat) (ha : a < b) (hb : b < t.l.length), 0 ≤ d ∧ h = ⟨⟨t.h.id, d, (t.l[a]'(by omega)).st, t.l[b].st⟩, 1440 * d + (t.l[a]'(by omega)).dp, 1440 * d + t.l[b].ar⟩ := by
  unfold allH at hm
  obtain ⟨t, ht, hm⟩ := List.mem_flatMap.1 hm
  obtain ⟨i, hi4, hm⟩ := List.mem_flatMap.1 hm
  by_cases hd : 0 ≤ day - 2 + (i : Int) ∧ dayBit t.h.dy (day - 2 + (i : Int)) = 1
  · rw [if_pos hd] at hm
    obtain ⟨a, ha, hm⟩ := List.mem_flatMap.1 hm
    obtain ⟨s, hs, rfl⟩ := List.mem_map.1 hm
    have ha' := List.mem_range.1 ha
    obtain ⟨j, hj, e⟩ := List.getElem_of_mem hs
    rw [List.length_drop] at hj
    rw [List.getElem_drop] at e
    refine ⟨t, ht, day - 2 + (i : Int), a, a + 1 + j, by omega, by omega, hd.1, ?_⟩
    rw [← e]
    unfold hopTo depAt
    rw [Tn.getD_at t.l a ha']
  · rw [if_neg hd] at hm
    simp at hm

theorem allH_fwd {ts : List Tr} {day : Int} (hok : ∀ t ∈ ts, okB t.h t.l = true) : Fwd (allH ts day) := by
  intro h hm
  obtain ⟨t, ht, d, a, b, ha, hb, -, rfl⟩ := allH_parts hm
  have := gap_up (hok t ht) a b ha hb
  show 1440 * d + _ ≤ 1440 * d + _
  omega

/-- The numbers of the trains ascend. -/
theorem ids_up {ts : List Tr} (h : Tn.linesB ts = true) (i : Nat) : ∀ j (hi : i < j) (hj : j < ts.length), (ts[i]'(by omega)).h.id < ts[j].h.id
  | 0, hi, hj => absurd hi (by omega)
  | j + 1, hi, hj => by
    have h0 := h
    unfold Tn.linesB Tn.linesFrom at h
    simp only [Bool.and_eq_true, List.drop_zero, List.all_eq_true] at h
    have h1 := h.1 (j + 1) (List.mem_range.2 hj)
    unfold Tn.lineB at h1
    simp only [Bool.and_eq_true, Bool.or_eq_true, decide_eq_true_eq] at h1
    have h2 : ts[j].h.id < ts[j + 1].h.id := by
      rcases h1.2 with h2 | h2
      · omega
      · simpa [List.getD, hj, show j < ts.length by omega] using h2
    by_cases e : i = j
    · subst e
      exact h2
    · have h3 := ids_up h0 i j (by omega) (by omega)
      omega

theorem id_one {ts : List Tr} (h : Tn.linesB ts = true) {t u : Tr} (ht : t ∈ ts) (hu : u ∈ ts) (e : t.h.id = u.h.id) : t = u := by
  obtain ⟨i, hi, rfl⟩ := List.getElem_of_mem ht
  obtain ⟨j, hj, rfl⟩ := List.getElem_of_mem hu
  rcases Nat.lt_trichotomy i j with h1 | rfl | h1
  · have := ids_up h i j h1 hj
    omega
  · rfl
  · have := ids_up h j i h1 hi
    omega

/-- One ride is one hop. -/
theorem hop_one {ts : List Tr} {day : Int} (h : Tn.linesB ts = true) : ∀ g ∈ allH ts day, ∀ x ∈ allH ts day, g.r = x.r → g = x := by
  intro g hg x hx e
  obtain ⟨t, ht, d, a, b, ha, hb, -, rfl⟩ := allH_parts hg
  obtain ⟨u, hu, d', a', b', ha', hb', -, rfl⟩ := allH_parts hx
  simp only [Ri.mk.injEq] at e
  obtain ⟨e1, rfl, e3, e4⟩ := e
  obtain rfl := id_one h ht hu e1
  have hok := (lines_ok h).2 t ht
  have i1 := ok_idx hok a (by omega)
  have i2 := ok_idx hok a' (by omega)
  have i3 := ok_idx hok b hb
  have i4 := ok_idx hok b' hb'
  rw [e3, i2] at i1
  rw [e4, i4] at i3
  have ea : a' = a := by omega
  have eb : b' = b := by omega
  subst ea
  subst eb
  rfl

end Rd
end Go.Proofs.Ytfoccmhmgdengaa

/- The program's search. -/
namespace Go.Proofs.Ytfoccmhmgdengaa
namespace Rd
open Go.ChangeShapes Go.WideShapes Go.ChangeAt Go.RowKit
open Pk (new_below join_below cell_at heap_new frozen_at lt_of kept heap_old info_of)
set_option linter.unusedSimpArgs false
set_option linter.unusedVariables false

/-- What stands while the search goes on. -/
structure BsI (H : List Hp) (v0 : Vw) (tt : Int) (mb PS HB FM : Nat) (w : World) (gk : Nat) (f : Nat → Vw) (n g cap Nf : Nat) (fw : Int → Option Nat) (wr : World) : Prop where
  hw : Hw (PS + 1 + 1) HB g cap f n wr
  heap : Heap f n
  mi : Em.Mi wr FM Nf (fun k => (fw k).map fun (x : Nat) => (x : Int))
  srch : Srch H v0.s v0.y tt ((List.range n).map f) fw
  low : Below PS w wr
  so : wr.heap[PS]? = some (.cells #[.int .i64 v0.s, .int .i64 v0.y, .int .i64 (v0.n : Int), .int .i64 tt, .map (some mb)] 65)
  ro : wr.heap[PS + 1]? = some (.cells #[.int .i64 0, .int .i64 0, .int .i64 0] 61)
  le : phi H fw + n ≤ gk
  bd : gk + Nf ≤ 400001

theorem mi_off {w : World} {b n g : Nat} {L : Int → Option Int} {cur : Array Value} {t : TypeId} {fz : Nat × Nat} (h : Em.Mi w b n L) (hg : w.heap[g]? = some (.cells cur t fz)) : b ≠ g := by
  obtain ⟨es, c, hb⟩ := h.isMap
  intro e
  subst e
  rw [hb] at hg
  cases hg

theorem Hw.turnM {B hb g cap n b : Nat} {f : Nat → Vw} {w w1 : World} (h : Hw B hb g cap f n w) (G : w.grownBy w1 (some b)) (h1 : hb ≠ b) (h2 : ∃ es c, w.heap[b]? = some (.map es c)) : Hw B hb g cap f n w1 := by
  obtain ⟨es, c, hm⟩ := h2
  obtain ⟨cur, -, hh, -⟩ := h.heap
  refine ⟨by rw [G.block hb (lt_of h.box) (by simpa using h1)]; exact h.box, own_kept h.row G (fun q hq => ?_)⟩
  simp only [Value.ownBlock, Option.some.injEq] at hq
  subst hq
  intro e
  simp only [Option.some.injEq] at e
  subst e
  rw [hm] at hh
  cases hh

/-- What the search answers. -/
def Bend (H : List Hp) (v0 : Vw) (tt : Int) (e : Ending) : Prop :=
  (∃ v, e = .returned (.tuple #[vV v, .bool true]) ∧ v.s = tt ∧ (∃ p, isTrip H v0.s v0.y tt p ∧ endY v0.y p = v.y ∧ p.length = v.n) ∧ ∀ q, isTrip H v0.s v0.y tt q → v.y < endY v0.y q ∨ (v.y = endY v0.y q ∧ v.n ≤ q.length)) ∨
  (e = .returned (.tuple #[vV ⟨0, 0, 0⟩, .bool false]) ∧ ∀ q, ¬ isTrip H v0.s v0.y tt q)

set_option maxRecDepth 100000 in
set_option maxHeartbeats 8000000 in
theorem best_val (B0 mb : Nat) (H : List Hp) (es : Array MapEntry) (clock : Nat) (v0 : Vw) (tt : Int) (w : World) (hH : H.length ≤ 64000) (hv0 : v0.n = 0) (hs : Em.WfI v0.s) (hB : ∀ h ∈ H, Em.WfI h.r.to ∧ 0 ≤ h.z ∧ h.z ≤ 200000000) (F : Fwd H) (hst : v0.s ≠ tt) (M : Em.Mp B0 mb (hopsAt H) es clock w) :
    Calls Try.prog 31 #[.agg #[.int .i64 v0.s, .int .i64 v0.y, .int .i64 (v0.n : Int), .int .i64 tt, .map (some mb)]] w fun e w' => Bend H v0 tt e ∧ Below w.heap.size w w' := by
  have HM : Hid (Em.Mp B0 mb (hopsAt H) es clock w) := M
  have HF : Hid (Fwd H) := F
  have HHB : Hid (∀ h ∈ H, Em.WfI h.r.to ∧ 0 ≤ h.z ∧ h.z ≤ 200000000) := hB
  have HV0 : Hid (v0 = ⟨v0.s, v0.y, 0⟩) := by
    show v0 = _
    cases v0
    simp only at hv0
    rw [hv0]
  have hmk : ∀ w : World, (Instr.makeMap 97 none).run Try.prog w = .ok (.map (some w.heap.size)) (w.alloc (.map #[] 0)) := fun w => by simp [Instr.makeMap, go_sem]
  obtain ⟨a0, a1, a2, a3, a4, a5⟩ := five_new w (.cells #[.int .i64 v0.s, .int .i64 v0.y, .int .i64 (v0.n : Int), .int .i64 tt, .map (some mb)] 65) (.cells #[.int .i64 0, .int .i64 0, .int .i64 0] 61) (.cells #[.int .i64 v0.s, .int .i64 v0.y, .int .i64 (v0.n : Int)] 61) (.cells #[.slice (some ⟨w.heap.size + 1 + 1, 0, none⟩) 1 1] 96) (.map #[] 0)
  have HST0 : Hid (∀ PS, w.heap.size = PS → BsI H v0 tt mb PS (PS + 1 + 1 + 1) (PS + 1 + 1 + 1 + 1) w (6 * H.length + 1) (fun _ => v0) 1 (PS + 1 + 1) 1 0 (fun _ => none) ((((((w.alloc (.cells #[.int .i64 v0.s, .int .i64 v0.y, .int .i64 (v0.n : Int), .int .i64 tt, .map (some mb)] 65)).alloc (.cells #[.int .i64 0, .int .i64 0, .int .i64 0] 61)).alloc (.cells #[.int .i64 v0.s, .int .i64 v0.y, .int .i64 (v0.n : Int)] 61)).alloc (.cells #[.slice (some ⟨w.heap.size + 1 + 1, 0, none⟩) 1 1] 96)).alloc (.map #[] 0)))) := by
    rintro PS rfl
    refine ⟨⟨a3, ⟨by simp [vcells, vc1], Or.inr ⟨_, 1, _, rfl, Nat.le_refl _, a2, Nat.le_refl _, by unfold maxLen; omega, rfl, by simp [vcells, vc1]⟩⟩⟩, fun k k0 k1 => by omega, ?_, ?_, a5, a0, a1, by rw [phi_zero]; omega, by omega⟩
    · have h := Em.mi_made ((((w.alloc (.cells #[.int .i64 v0.s, .int .i64 v0.y, .int .i64 (v0.n : Int), .int .i64 tt, .map (some mb)] 65)).alloc (.cells #[.int .i64 0, .int .i64 0, .int .i64 0] 61)).alloc (.cells #[.int .i64 v0.s, .int .i64 v0.y, .int .i64 (v0.n : Int)] 61)).alloc (.cells #[.slice (some ⟨w.heap.size + 1 + 1, 0, none⟩) 1 1] 96))
      have e1 : (w.alloc (.cells #[.int .i64 v0.s, .int .i64 v0.y, .int .i64 (v0.n : Int), .int .i64 tt, .map (some mb)] 65)).heap.size = w.heap.size + 1 := Array.size_push ..
      have e2 : ((w.alloc (.cells #[.int .i64 v0.s, .int .i64 v0.y, .int .i64 (v0.n : Int), .int .i64 tt, .map (some mb)] 65)).alloc (.cells #[.int .i64 0, .int .i64 0, .int .i64 0] 61)).heap.size = w.heap.size + 1 + 1 := (Array.size_push ..).trans (by rw [e1])
      have e3 : (((w.alloc (.cells #[.int .i64 v0.s, .int .i64 v0.y, .int .i64 (v0.n : Int), .int .i64 tt, .map (some mb)] 65)).alloc (.cells #[.int .i64 0, .int .i64 0, .int .i64 0] 61)).alloc (.cells #[.int .i64 v0.s, .int .i64 v0.y, .int .i64 (v0.n : Int)] 61)).heap.size = w.heap.size + 1 + 1 + 1 := (Array.size_push ..).trans (by rw [e2])
      have e4 : ((((w.alloc (.cells #[.int .i64 v0.s, .int .i64 v0.y, .int .i64 (v0.n : Int), .int .i64 tt, .map (some mb)] 65)).alloc (.cells #[.int .i64 0, .int .i64 0, .int .i64 0] 61)).alloc (.cells #[.int .i64 v0.s, .int .i64 v0.y, .int .i64 (v0.n : Int)] 61)).alloc (.cells #[.slice (some ⟨w.heap.size + 1 + 1, 0, none⟩) 1 1] 96)).heap.size = w.heap.size + 1 + 1 + 1 + 1 := (Array.size_push ..).trans (by rw [e3])
      rw [e4] at h
      exact h
    · have := Srch.start H v0.s v0.y tt
      rw [← HV0.out] at this
      exact this
  have e1 : (w.alloc (.cells #[.int .i64 v0.s, .int .i64 v0.y, .int .i64 (v0.n : Int), .int .i64 tt, .map (some mb)] 65)).heap.size = w.heap.size + 1 := Array.size_push ..
  have b0 := heap_old (heap_new w (.cells #[.int .i64 v0.s, .int .i64 v0.y, .int .i64 (v0.n : Int), .int .i64 tt, .map (some mb)] 65)) (.cells #[.int .i64 0, .int .i64 0, .int .i64 0] 61)
  have q0 : ((w.alloc (.cells #[.int .i64 v0.s, .int .i64 v0.y, .int .i64 (v0.n : Int), .int .i64 tt, .map (some mb)] 65)).alloc (.cells #[.int .i64 0, .int .i64 0, .int .i64 0] 61)).cell? ⟨w.heap.size, 0, none⟩ = some (.int .i64 v0.s) := cell_at b0 0
  have q1 : ((w.alloc (.cells #[.int .i64 v0.s, .int .i64 v0.y, .int .i64 (v0.n : Int), .int .i64 tt, .map (some mb)] 65)).alloc (.cells #[.int .i64 0, .int .i64 0, .int .i64 0] 61)).cell? ⟨w.heap.size, 1, none⟩ = some (.int .i64 v0.y) := cell_at b0 1
  have q2 : ((w.alloc (.cells #[.int .i64 v0.s, .int .i64 v0.y, .int .i64 (v0.n : Int), .int .i64 tt, .map (some mb)] 65)).alloc (.cells #[.int .i64 0, .int .i64 0, .int .i64 0] 61)).cell? ⟨w.heap.size, 2, none⟩ = some (.int .i64 (v0.n : Int)) := cell_at b0 2
  clear a0 a1 a2 a3 a4 a5 b0 M F hB hv0 e1
  go_enter Try.func31, Try.ntmps31
  go_wp2
  have HB0 := HST0.out _ rfl
  generalize (((((w.alloc (.cells #[.int .i64 v0.s, .int .i64 v0.y, .int .i64 (v0.n : Int), .int .i64 tt, .map (some mb)] 65)).alloc (.cells #[.int .i64 0, .int .i64 0, .int .i64 0] 61)).alloc (.cells #[.int .i64 v0.s, .int .i64 v0.y, .int .i64 (v0.n : Int)] 61)).alloc (.cells #[.slice (some ⟨w.heap.size + 1 + 1, 0, none⟩) 1 1] 96)).alloc (.map #[] 0)) = W5 at *
  clear q0 q1 q2
  generalize hPS : w.heap.size = PS at *
  clear HST0
  obtain ⟨HB, hHB⟩ : ∃ x, PS + 1 + 1 + 1 = x := ⟨_, rfl⟩
  obtain ⟨FM, hFM⟩ : ∃ x, PS + 1 + 1 + 1 + 1 = x := ⟨_, rfl⟩
  rw [hFM, hHB] at HB0
  have HST1 : Hid (BsI H v0 tt mb PS HB FM w (6 * H.length + 1) (fun _ => v0) 1 (PS + 1 + 1) 1 0 (fun _ => none) W5) := HB0
  clear HB0
  try rw [hFM]
  try rw [hHB]
  have hHB2 : HB = PS + 3 := by omega
  have hFM2 : FM = PS + 4 := by omega
  have HN1 : Hid (HB = PS + 3) := hHB2
  have HN2 : Hid (FM = PS + 4) := hFM2
  clear hHB hFM hHB2 hFM2
  go_loopg [6, 7] (6 * H.length + 1) (fun gk _ _ wr => ∃ f n g cap Nf fw, BsI H v0 tt mb PS HB FM w gk f n g cap Nf fw wr)
  case atStart => exact ⟨_, _, _, _, _, _, HST1.out⟩
  case round =>
    clear HST1
    obtain ⟨f, n, g, cap, Nf, fw, I⟩ := hrel
    obtain ⟨iH, iP, iM, iS, iL, so, ro, iG, iT⟩ := I
    have hHB : PS + 2 < HB := by have := HN1.out; omega
    have hFM : HB < FM := by have := HN1.out; have := HN2.out; omega
    have hFg : FM ≠ g := by
      obtain ⟨cur, -, hh, -⟩ := iH.heap
      exact mi_off iM hh
    have c0 := iH.cell
    have hro := lt_of ro
    by_cases hn : n = 0
    · subst hn
      have HNT : Hid (∀ q, ¬ isTrip H v0.s v0.y tt q) := Srch.none iS
      have HLN : Calls Try.prog 52 #[.slice (some ⟨g, 0, none⟩) 0 cap] wr fun e w' => e = .returned (.int .i64 0) ∧ w' = wr := wayLen_val (some ⟨g, 0, none⟩) 0 cap wr
      have r0 := cell_at ro 0
      have r1 := cell_at ro 1
      have r2 := cell_at ro 2
      have g0 := frozen_at ro 0
      have g1 := frozen_at ro 1
      have g2 := frozen_at ro 2
      have HLL : Hid (Below PS w wr) := iL
      have x9 := set_three (x' := .int .i64 0) (y' := .int .i64 0) (z' := .int .i64 0) ro
      have u0 := cell_at x9 0
      have u1 := cell_at x9 1
      have u2 := cell_at x9 2
      have HX9 : Hid (_) := x9
      clear iH iP iM iS iL so ro iG iT x9 hHB hFM
      simp at r0 r1 r2 u0 u1 u2
      go_wp2_with fail
      refine HLN.mono ?_
      rintro e w1 ⟨rfl, rfl⟩
      clear HLN c0
      go_wp2
      refine bodyPost_ret (v := .tuple #[vV ⟨0, 0, 0⟩, .bool false]) (by simp [results, Try.results31, go_sem, u0, u1, u2]) rfl ?_
      refine ⟨Or.inr ⟨rfl, HNT.out⟩, ?_⟩
      rw [hPS]
      exact ((HLL.out.setCell (p := ⟨PS + 1, 0, none⟩) (by show PS ≤ PS + 1; omega) _).setCell (p := ⟨PS + 1, 1, none⟩) (by show PS ≤ PS + 1; omega) _).setCell (p := ⟨PS + 1, 2, none⟩) (by show PS ≤ PS + 1; omega) _
    · obtain ⟨m, rfl⟩ : ∃ m, n = m + 1 := ⟨n - 1, by omega⟩
      clear hn
      have HLN := wayLen_val (some ⟨g, 0, none⟩) (m + 1) cap wr
      have HPO := heapPop_val (PS + 1 + 1) HB g cap m f wr iH iP (by omega)
      have hpos : (0 : Int) < (m : Int) + 1 := by omega
      have HTP : Hid (Top ((List.range (m + 1)).map f) (f 0)) := heap_is_top iP (Nat.succ_pos m) fun u => mem_ways
      have HSR : Hid (Srch H v0.s v0.y tt ((List.range (m + 1)).map f) fw) := iS
      obtain ⟨v, hv⟩ : ∃ v, f 0 = v := ⟨_, rfl⟩
      rw [hv] at HPO
      have HTP' : Hid (Top ((List.range (m + 1)).map f) v) := by have := HTP.out; rw [hv] at this; exact this
      clear HTP
      have HTP := HTP'
      clear HTP'
      obtain ⟨p, p1, p2, p3, p4, p5⟩ := HSR.out.real v HTP.out.1
      have hvs : Em.WfI v.s := by
        rcases way_ends p1 with e | ⟨h, hh, e⟩
        · rw [← p2, e]; exact hs
        · rw [← p2, e]; exact (HHB.out h hh).1
      clear p1 p2 p3 p4
      have hlo := iH.lo
      have ta := as_way v
      have HII : Hid (Below PS w wr ∧ Em.Mi wr FM Nf (fun k => (fw k).map fun (x : Nat) => (x : Int))) := ⟨iL, iM⟩
      clear iH iP iS iL iM hv
      go_wp2_with fail
      refine HLN.mono ?_
      rintro e w1 ⟨rfl, rfl⟩
      clear HLN c0
      go_wp2_with fail
      refine HPO.mono ?_
      rintro e w1 ⟨rfl, f1, H1, P1x, MMx, K1⟩
      have P1 : Hid (Heap f1 m) := P1x
      have HMM : Hid (∀ u, (∃ k, k < m + 1 ∧ f k = u) ↔ (∃ k, k < m ∧ f1 k = u) ∨ u = v) := MMx
      have so1 : w1.heap[PS]? = some (.cells #[.int .i64 v0.s, .int .i64 v0.y, .int .i64 (v0.n : Int), .int .i64 tt, .map (some mb)] 65) := (K1.block PS (lt_of so) (by omega) (by omega)).trans so
      have ro1 : w1.heap[PS + 1]? = some (.cells #[.int .i64 0, .int .i64 0, .int .i64 0] 61) := (K1.block _ (lt_of ro) (by omega) (by omega)).trans ro
      have M1 := HII.out.2.on (K1.block FM HII.out.2.lt (by omega) hFg)
      have L1 : Below PS w w1 := HII.out.1.trans (K1.below (by omega) (by omega) (by omega))
      clear HPO K1 P1x MMx so ro HII
      have NV := new_below w1 (.cells #[.int .i64 v.s, .int .i64 v.y, .int .i64 (v.n : Int)] 61)
      have H2 := H1.on NV
      have M2 := M1.on (NV.block _ M1.lt)
      have L2 : Below PS w (w1.alloc (.cells #[.int .i64 v.s, .int .i64 v.y, .int .i64 (v.n : Int)] 61)) := L1.trans (NV.mono (by have := lt_of ro1; omega))
      have so2 := heap_old so1 (.cells #[.int .i64 v.s, .int .i64 v.y, .int .i64 (v.n : Int)] 61)
      have ro2 := heap_old ro1 (.cells #[.int .i64 v.s, .int .i64 v.y, .int .i64 (v.n : Int)] 61)
      have wo2 := heap_new w1 (.cells #[.int .i64 v.s, .int .i64 v.y, .int .i64 (v.n : Int)] 61)
      have hgw2 : g ≠ w1.heap.size := by have := H1.lt; omega
      have hFl : FM < w1.heap.size := M1.lt
      have hPl : PS + 1 < w1.heap.size := lt_of ro1
      have t20 : (w1.alloc (.cells #[.int .i64 v.s, .int .i64 v.y, .int .i64 (v.n : Int)] 61)).cell? ⟨w1.heap.size, 0, none⟩ = some (.int .i64 v.s) := cell_at wo2 0
      have t21 : (w1.alloc (.cells #[.int .i64 v.s, .int .i64 v.y, .int .i64 (v.n : Int)] 61)).cell? ⟨w1.heap.size, 1, none⟩ = some (.int .i64 v.y) := cell_at wo2 1
      have t22 : (w1.alloc (.cells #[.int .i64 v.s, .int .i64 v.y, .int .i64 (v.n : Int)] 61)).cell? ⟨w1.heap.size, 2, none⟩ = some (.int .i64 (v.n : Int)) := cell_at wo2 2
      have d23 : (w1.alloc (.cells #[.int .i64 v.s, .int .i64 v.y, .int .i64 (v.n : Int)] 61)).cell? ⟨PS, 3, none⟩ = some (.int .i64 tt) := cell_at so2 3
      clear H1 M1 L1 so1 ro1 NV
      by_cases hnt : v.s = tt
      · have e1 : (v.s == tt) = true := by simpa using hnt
        have HEN : Hid ((∃ p, isTrip H v0.s v0.y tt p ∧ endY v0.y p = v.y ∧ p.length = v.n) ∧ ∀ q, isTrip H v0.s v0.y tt q → v.y < endY v0.y q ∨ (v.y = endY v0.y q ∧ v.n ≤ q.length)) := Srch.best HF.out hst HSR.out HTP.out hnt
        have HNT : Hid (v.s = tt) := hnt
        have r0 := cell_at ro2 0
        have r1 := cell_at ro2 1
        have r2 := cell_at ro2 2
        have g0 := frozen_at ro2 0
        have g1 := frozen_at ro2 1
        have g2 := frozen_at ro2 2
        have x9 := set_three (x' := .int .i64 v.s) (y' := .int .i64 v.y) (z' := .int .i64 (v.n : Int)) ro2
        have u0 := cell_at x9 0
        have u1 := cell_at x9 1
        have u2 := cell_at x9 2
        have HLL : Hid (_) := L2
        clear H2 M2 L2 so2 ro2 wo2 x9 iG iT hHB hFM hnt hFl hPl
        simp at r0 r1 r2 u0 u1 u2
        go_wp2
        refine bodyPost_ret (v := .tuple #[vV v, .bool true]) (by simp [results, Try.results31, go_sem, u0, u1, u2]) rfl ?_
        refine ⟨Or.inl ⟨v, rfl, HNT.out, HEN.out.1, HEN.out.2⟩, ?_⟩
        rw [hPS]
        exact ((HLL.out.setCell (p := ⟨PS + 1, 0, none⟩) (by show PS ≤ PS + 1; omega) _).setCell (p := ⟨PS + 1, 1, none⟩) (by show PS ≤ PS + 1; omega) _).setCell (p := ⟨PS + 1, 2, none⟩) (by show PS ≤ PS + 1; omega) _
      · have e1 : (v.s == tt) = false := by simpa using hnt
        have lk := M2.look2 hvs
        have HLVG : Hid ((v.n = 6 ∨ ∃ n, fw v.s = some n ∧ n ≤ v.n) → Srch H v0.s v0.y tt ((List.range m).map f1) fw) := fun hw => Srch.leave HSR.out HTP.out hnt (fun u hu => by
          rcases (HMM.out u).1 (mem_ways.1 hu) with h | h
          · exact Or.inr (mem_ways.2 h)
          · exact Or.inl h) (fun u hu => mem_ways.2 ((HMM.out u).2 (Or.inl (mem_ways.1 hu)))) hw
        have HNE : Hid (v.s ≠ tt) := hnt
        clear hnt
        by_cases h6 : v.n = 6
        · have HLV : Hid (Srch H v0.s v0.y tt ((List.range m).map f1) fw) := HLVG.out (Or.inl h6)
          have e6 : ((v.n : Int) == 6) = true := by rw [h6]; rfl
          obtain ⟨x, hx⟩ : ∃ x, ((fw v.s).map fun (x : Nat) => (x : Int)).getD 0 = x := ⟨_, rfl⟩
          obtain ⟨bb, hbb⟩ : ∃ x, ((fw v.s).map fun (x : Nat) => (x : Int)).isSome = x := ⟨_, rfl⟩
          rw [hx, hbb] at lk
          clear hx hbb h6
          have HST : Hid (BsI H v0 tt mb PS HB FM w (gk - 1) f1 m g cap Nf fw (w1.alloc (.cells #[.int .i64 v.s, .int .i64 v.y, .int .i64 (v.n : Int)] 61))) := ⟨H2, P1.out, M2, HLV.out, L2, so2, ro2, by omega, by omega⟩
          clear H2 M2 L2 so2 ro2 wo2
          go_wp2
          go_roundg (gk - 1)
          case measure => omega
          case rel => exact ⟨f1, m, g, cap, Nf, fw, HST.out⟩
        · have e6 : ((v.n : Int) == 6) = false := by simp; omega
          have HN6 : Hid (v.n ≠ 6) := h6
          cases hk : fw v.s with
          | none =>
            rw [hk] at lk
            simp only [Option.map_none, Option.getD_none, Option.isSome_none] at lk
            have HLT : Hid (v.n < cst fw v.s) := by
              show v.n < cst fw v.s
              unfold cst
              rw [hk]
              show v.n < 6
              omega
            clear hk h6 HLVG
            obtain ⟨w3, hup, M3, G3⟩ := M2.put (by unfold maxLen; omega) hvs (v.n : Int)
            rw [putN_cast] at M3
            obtain ⟨ha, hc, hlk, HO3⟩ := hops_look HM.out hvs
            have e3 : ∀ k, k ≠ FM → k < (w1.alloc (.cells #[.int .i64 v.s, .int .i64 v.y, .int .i64 (v.n : Int)] 61)).heap.size → w3.heap[k]? = (w1.alloc (.cells #[.int .i64 v.s, .int .i64 v.y, .int .i64 (v.n : Int)] 61)).heap[k]? := fun k h1 h2 => G3.block k h2 (by simpa using h1)
            have L3 : Below PS w w3 := L2.trans ⟨G3.os, G3.tape, G3.output, G3.size, fun k hk => e3 k (by omega) (Nat.lt_of_lt_of_le (show k < w1.heap.size by omega) (show w1.heap.size ≤ (w1.heap.push _).size by simp))⟩
            have H3 : Hw (PS + 1 + 1) HB g cap f1 m w3 := H2.turnM G3 (by omega) M2.isMap
            have so3 : w3.heap[PS]? = some (.cells #[.int .i64 v0.s, .int .i64 v0.y, .int .i64 (v0.n : Int), .int .i64 tt, .map (some mb)] 65) := (e3 PS (by omega) (lt_of so2)).trans so2
            have ro3 : w3.heap[PS + 1]? = some (.cells #[.int .i64 0, .int .i64 0, .int .i64 0] 61) := (e3 (PS + 1) (by omega) (lt_of ro2)).trans ro2
            have wo3 : w3.heap[w1.heap.size]? = some (.cells #[.int .i64 v.s, .int .i64 v.y, .int .i64 (v.n : Int)] 61) := (e3 w1.heap.size (by omega) (lt_of wo2)).trans wo2
            have hgw : g ≠ w1.heap.size := hgw2
            have hwb : w1.heap.size < w3.heap.size := lt_of wo3
            have hlk3 := hlk w3 (by rw [hPS]; exact L3)
            have HOH : Hid (∀ W, Below PS w W → Hops W ha (hopsAt H v.s)) := fun W L => HO3.on (by rw [hPS]; exact L)
            have HIN : Hid (∀ h ∈ hopsAt H v.s, Em.WfI h.r.to ∧ 0 ≤ h.z ∧ h.z ≤ 200000000 ∧ h.r.fr = v.s) := fun h hh => by
              obtain ⟨h1, h2⟩ := hopsAt_iff.1 hh
              obtain ⟨a1, a2, a3⟩ := HHB.out h h1
              exact ⟨a1, a2, a3, h2⟩
            have hLl : (hopsAt H v.s).length ≤ 64000 := Nat.le_trans (hopsAt_len H v.s) hH
            have HGO : Hid (∀ (n2 : Nat) (f2 : Nat → Vw), (∀ u, (∃ k, k < n2 ∧ f2 k = u) ↔ (∃ k, k < m ∧ f1 k = u) ∨ ∃ h ∈ hopsAt H v.s, v.y ≤ h.d ∧ u = ⟨h.r.to, h.z + 3, v.n + 1⟩) → Srch H v0.s v0.y tt ((List.range n2).map f2) (putN fw v.s v.n)) := fun n2 f2 hm => by
              refine Srch.go HF.out HSR.out HTP.out HNE.out HN6.out (fun u hu => ?_) (fun u hu => ?_) (fun h h1 h2 h3 => ?_) (fun st => rfl)
              · rcases (HMM.out u).1 (mem_ways.1 hu) with h | h
                · exact Or.inr (mem_ways.2 ((hm u).2 (Or.inl h)))
                · exact Or.inl h
              · rcases (hm u).1 (mem_ways.1 hu) with h | ⟨h, h1, h2, h3⟩
                · exact Or.inl (mem_ways.2 ((HMM.out u).2 (Or.inl h)))
                · obtain ⟨h4, h5⟩ := hopsAt_iff.1 h1
                  exact Or.inr ⟨h, h4, h5, h2, h3⟩
              · exact mem_ways.2 ((hm _).2 (Or.inr ⟨h, hopsAt_iff.2 ⟨h1, h2⟩, h3, rfl⟩))
            have HPH : Hid (phi H (putN fw v.s v.n) + (hopsAt H v.s).length ≤ phi H fw) := phi_put HLT.out H
            have HPI : Hid (Hw (PS + 1 + 1) HB g cap f1 m w3 ∧ Heap f1 m ∧ Em.Mi w3 FM (Nf + 1) (fun k => (putN fw v.s v.n k).map fun (x : Nat) => (x : Int)) ∧ Below PS w w3) := ⟨H3, P1.out, M3, L3⟩
            have d3 : ∀ q u, (#[Value.int .i64 v0.s, .int .i64 v0.y, .int .i64 (v0.n : Int), .int .i64 tt, .map (some mb)] : Array Value)[q]? = some u → w3.cell? ⟨PS, q, none⟩ = some u := fun q u h => (cell_at so3 q).trans h
            have d34 := d3 4 _ rfl
            have t30 : w3.cell? ⟨w1.heap.size, 0, none⟩ = some (.int .i64 v.s) := cell_at wo3 0
            generalize hLN : (hopsAt H v.s).length = LN at *
            clear M3 G3 e3 L3 H3 d3 hlk HO3 so2 ro2 wo2 M2 H2 L2 hgw2
            go_wp2
            clear hup hlk3 d34 t30 lk t20 t21 t22 d23
            generalize w1.heap.size = WB at *
            go_loopw [61] (fun iv wq => ∃ (i n2 : Nat) (f2 : Nat → Vw) (g2 cap2 : Nat), iv = .int .i64 i ∧ i ≤ LN ∧ Hw (PS + 1 + 1) HB g2 cap2 f2 n2 wq ∧ Heap f2 n2 ∧ (∀ u, (∃ k, k < n2 ∧ f2 k = u) ↔ (∃ k, k < m ∧ f1 k = u) ∨ ∃ h ∈ (hopsAt H v.s).take i, v.y ≤ h.d ∧ u = ⟨h.r.to, h.z + 3, v.n + 1⟩) ∧ n2 ≤ m + i ∧ Below PS w wq ∧ wq.heap[PS]? = some (.cells #[.int .i64 v0.s, .int .i64 v0.y, .int .i64 (v0.n : Int), .int .i64 tt, .map (some mb)] 65) ∧ wq.heap[PS + 1]? = some (.cells #[.int .i64 0, .int .i64 0, .int .i64 0] 61) ∧ wq.heap[WB]? = some (.cells #[.int .i64 v.s, .int .i64 v.y, .int .i64 (v.n : Int)] 61) ∧ Em.Mi wq FM (Nf + 1) (fun k => (putN fw v.s v.n k).map fun (x : Nat) => (x : Int)) ∧ g2 ≠ WB) (fun iv _ => LN - (intOf iv).toNat)
            case atStart => exact ⟨0, m, f1, g, cap, rfl, Nat.zero_le _, HPI.out.1, HPI.out.2.1, fun u => by simp, Nat.le_refl _, HPI.out.2.2.2, so3, ro3, wo3, HPI.out.2.2.1, hgw⟩
            case round =>
              clear so3 ro3 wo3 hgw HPI
              obtain ⟨i, n2, f2, g2, cap2, rfl, hiL, Hq, Pq, Mmq, hn2, Lq, soq, roq, woq, Mq, hgq⟩ := hrel
              have HPQ : Hid (Heap f2 n2) := Pq
              have HMQ : Hid (∀ u, (∃ k, k < n2 ∧ f2 k = u) ↔ (∃ k, k < m ∧ f1 k = u) ∨ ∃ h ∈ (hopsAt H v.s).take i, v.y ≤ h.d ∧ u = ⟨h.r.to, h.z + 3, v.n + 1⟩) := Mmq
              clear Pq Mmq
              by_cases hin : i < LN
              · have hi1 : (i : Int) < (LN : Int) := by omega
                have hil : i < (hopsAt H v.s).length := by rw [hLN]; exact hin
                obtain ⟨gh, ea, hgh, s0, s1, s2, s3, s4, s5⟩ := HOH.out wr Lq i hil
                obtain ⟨h, hh⟩ : ∃ h, (hopsAt H v.s)[i] = h := ⟨_, rfl⟩
                rw [hh] at s0 s1 s2 s3 s4 s5
                obtain ⟨k1, k2, k3, k4⟩ := HIN.out h (by rw [← hh]; exact List.getElem_mem hil)
                have HTK : Hid ((hopsAt H v.s).take (i + 1) = (hopsAt H v.s).take i ++ [h]) := by
                  show _ = _
                  rw [List.take_succ_eq_append_getElem hil, hh]
                subst ea
                have NX := new_below wr (.cells #[.int .i64 h.r.tr, .int .i64 h.r.dy, .int .i64 h.r.fr, .int .i64 h.r.to, .int .i64 h.d, .int .i64 h.z] 76)
                have x2 := heap_new wr (.cells #[.int .i64 h.r.tr, .int .i64 h.r.dy, .int .i64 h.r.fr, .int .i64 h.r.to, .int .i64 h.d, .int .i64 h.z] 76)
                have sz2 : (wr.alloc (.cells #[.int .i64 h.r.tr, .int .i64 h.r.dy, .int .i64 h.r.fr, .int .i64 h.r.to, .int .i64 h.d, .int .i64 h.z] 76)).heap.size = wr.heap.size + 1 := Array.size_push ..
                have Hx := Hq.on NX
                have Lx : Below PS w (wr.alloc (.cells #[.int .i64 h.r.tr, .int .i64 h.r.dy, .int .i64 h.r.fr, .int .i64 h.r.to, .int .i64 h.d, .int .i64 h.z] 76)) := Lq.trans (NX.mono (by have := Lq.size; omega))
                have sox := heap_old soq (.cells #[.int .i64 h.r.tr, .int .i64 h.r.dy, .int .i64 h.r.fr, .int .i64 h.r.to, .int .i64 h.d, .int .i64 h.z] 76)
                have rox := heap_old roq (.cells #[.int .i64 h.r.tr, .int .i64 h.r.dy, .int .i64 h.r.fr, .int .i64 h.r.to, .int .i64 h.d, .int .i64 h.z] 76)
                have wox := heap_old woq (.cells #[.int .i64 h.r.tr, .int .i64 h.r.dy, .int .i64 h.r.fr, .int .i64 h.r.to, .int .i64 h.d, .int .i64 h.z] 76)
                have Mx := Mq.on (NX.block _ Mq.lt)
                have hwx : WB < wr.heap.size := lt_of woq
                have hg2 : g2 < wr.heap.size := Hq.lt
                have HXX : Hid (Hw (PS + 1 + 1) HB g2 cap2 f2 n2 (wr.alloc (.cells #[.int .i64 h.r.tr, .int .i64 h.r.dy, .int .i64 h.r.fr, .int .i64 h.r.to, .int .i64 h.d, .int .i64 h.z] 76)) ∧ Em.Mi (wr.alloc (.cells #[.int .i64 h.r.tr, .int .i64 h.r.dy, .int .i64 h.r.fr, .int .i64 h.r.to, .int .i64 h.d, .int .i64 h.z] 76)) FM (Nf + 1) (fun k => (putN fw v.s v.n k).map fun (x : Nat) => (x : Int)) ∧ Below PS w (wr.alloc (.cells #[.int .i64 h.r.tr, .int .i64 h.r.dy, .int .i64 h.r.fr, .int .i64 h.r.to, .int .i64 h.d, .int .i64 h.z] 76))) := ⟨Hx, Mx, Lx⟩
                clear Hx Mx Lx Hq Mq Lq NX soq roq woq hh hil k1
                have HTA : Hid (∀ W : World, _) := fun W => Tn.takes_val h.r h.d h.z v.s v.y (v.n : Int) W
                have HBE : Hid (∀ W : World, _) := fun W => Tn.behind_val h.r h.d h.z v.s v.y (v.n : Int) W k2 k3 (by omega) (by omega)
                have e1 : (h.r.fr == v.s) = true := by simpa using k4
                clear k4
                have y0 : (wr.alloc (.cells #[.int .i64 h.r.tr, .int .i64 h.r.dy, .int .i64 h.r.fr, .int .i64 h.r.to, .int .i64 h.d, .int .i64 h.z] 76)).cell? ⟨WB, 0, none⟩ = some (.int .i64 v.s) := cell_at wox 0
                have y1 : (wr.alloc (.cells #[.int .i64 h.r.tr, .int .i64 h.r.dy, .int .i64 h.r.fr, .int .i64 h.r.to, .int .i64 h.d, .int .i64 h.z] 76)).cell? ⟨WB, 1, none⟩ = some (.int .i64 v.y) := cell_at wox 1
                have y2 : (wr.alloc (.cells #[.int .i64 h.r.tr, .int .i64 h.r.dy, .int .i64 h.r.fr, .int .i64 h.r.to, .int .i64 h.d, .int .i64 h.z] 76)).cell? ⟨WB, 2, none⟩ = some (.int .i64 (v.n : Int)) := cell_at wox 2
                have z0 : (wr.alloc (.cells #[.int .i64 h.r.tr, .int .i64 h.r.dy, .int .i64 h.r.fr, .int .i64 h.r.to, .int .i64 h.d, .int .i64 h.z] 76)).cell? ⟨wr.heap.size, 0, none⟩ = some (.int .i64 h.r.tr) := cell_at x2 0
                have z1 : (wr.alloc (.cells #[.int .i64 h.r.tr, .int .i64 h.r.dy, .int .i64 h.r.fr, .int .i64 h.r.to, .int .i64 h.d, .int .i64 h.z] 76)).cell? ⟨wr.heap.size, 1, none⟩ = some (.int .i64 h.r.dy) := cell_at x2 1
                have z2 : (wr.alloc (.cells #[.int .i64 h.r.tr, .int .i64 h.r.dy, .int .i64 h.r.fr, .int .i64 h.r.to, .int .i64 h.d, .int .i64 h.z] 76)).cell? ⟨wr.heap.size, 2, none⟩ = some (.int .i64 h.r.fr) := cell_at x2 2
                have z3 : (wr.alloc (.cells #[.int .i64 h.r.tr, .int .i64 h.r.dy, .int .i64 h.r.fr, .int .i64 h.r.to, .int .i64 h.d, .int .i64 h.z] 76)).cell? ⟨wr.heap.size, 3, none⟩ = some (.int .i64 h.r.to) := cell_at x2 3
                have z4 : (wr.alloc (.cells #[.int .i64 h.r.tr, .int .i64 h.r.dy, .int .i64 h.r.fr, .int .i64 h.r.to, .int .i64 h.d, .int .i64 h.z] 76)).cell? ⟨wr.heap.size, 4, none⟩ = some (.int .i64 h.d) := cell_at x2 4
                have z5 : (wr.alloc (.cells #[.int .i64 h.r.tr, .int .i64 h.r.dy, .int .i64 h.r.fr, .int .i64 h.r.to, .int .i64 h.d, .int .i64 h.z] 76)).cell? ⟨wr.heap.size, 5, none⟩ = some (.int .i64 h.z) := cell_at x2 5
                clear sz2
                go_wp2_with fail
                generalize wr.alloc (.cells #[.int .i64 h.r.tr, .int .i64 h.r.dy, .int .i64 h.r.fr, .int .i64 h.r.to, .int .i64 h.d, .int .i64 h.z] 76) = Wx at *
                generalize wr.heap.size = HX at *
                clear s0 s1 s2 s3 s4 s5 y0 y1 y2 z0 z1 z2 z3 z4 z5
                refine (HTA.out Wx).mono ?_
                rintro e w5 ⟨rfl, L5⟩
                have so5 := kept L5 (lt_of sox) sox
                have ro5 := kept L5 (lt_of rox) rox
                have wo5 := kept L5 (lt_of wox) wox
                have x5 := kept L5 (lt_of x2) x2
                obtain ⟨HX1, HX2, HX3⟩ := HXX.out
                have H5 := HX1.on L5
                have M5 := HX2.on (L5.block _ HX2.lt)
                have LL5 : Below PS w w5 := HX3.trans (L5.mono (by have := HX3.size; omega))
                have hs5 : PS + 1 < w5.heap.size := lt_of ro5
                clear HX1 HX2 HX3 HXX sox rox wox L5
                rw [e1]
                cases hd : decide (v.y ≤ h.d)
                · have HMN : Hid (∀ u, (∃ k, k < n2 ∧ f2 k = u) ↔ (∃ k, k < m ∧ f1 k = u) ∨ ∃ h ∈ (hopsAt H v.s).take (i + 1), v.y ≤ h.d ∧ u = ⟨h.r.to, h.z + 3, v.n + 1⟩) := fun u => by
                    rw [HMQ.out u, HTK.out]
                    refine or_congr Iff.rfl ⟨fun ⟨x, a, b, c⟩ => ⟨x, List.mem_append_left _ a, b, c⟩, fun ⟨x, a, b, c⟩ => ?_⟩
                    rcases List.mem_append.1 a with a | a
                    · exact ⟨x, a, b, c⟩
                    · obtain rfl := List.mem_singleton.1 a
                      exact absurd b (of_decide_eq_false hd)
                  have HZZ : Hid (Hw (PS + 1 + 1) HB g2 cap2 f2 n2 w5 ∧ Em.Mi w5 FM (Nf + 1) (fun k => (putN fw v.s v.n k).map fun (x : Nat) => (x : Int)) ∧ Below PS w w5) := ⟨H5, M5, LL5⟩
                  clear H5 M5 LL5 hd x5 x2
                  have hn3 : n2 ≤ m + (i + 1) := by omega
                  go_wp2
                  go_roundw
                  case rel => exact ⟨i + 1, n2, f2, g2, cap2, by go_num, by omega, HZZ.out.1, HPQ.out, HMN.out, hn3, HZZ.out.2.2, so5, ro5, wo5, HZZ.out.2.1, hgq⟩
                  case measure => simp [intOf]; omega
                · have hdd : v.y ≤ h.d := of_decide_eq_true hd
                  clear hd
                  have y0 : w5.cell? ⟨WB, 0, none⟩ = some (.int .i64 v.s) := cell_at wo5 0
                  have y1 : w5.cell? ⟨WB, 1, none⟩ = some (.int .i64 v.y) := cell_at wo5 1
                  have y2 : w5.cell? ⟨WB, 2, none⟩ = some (.int .i64 (v.n : Int)) := cell_at wo5 2
                  have z0 : w5.cell? ⟨HX, 0, none⟩ = some (.int .i64 h.r.tr) := cell_at x5 0
                  have z1 : w5.cell? ⟨HX, 1, none⟩ = some (.int .i64 h.r.dy) := cell_at x5 1
                  have z2 : w5.cell? ⟨HX, 2, none⟩ = some (.int .i64 h.r.fr) := cell_at x5 2
                  have z3 : w5.cell? ⟨HX, 3, none⟩ = some (.int .i64 h.r.to) := cell_at x5 3
                  have z4 : w5.cell? ⟨HX, 4, none⟩ = some (.int .i64 h.d) := cell_at x5 4
                  have z5 : w5.cell? ⟨HX, 5, none⟩ = some (.int .i64 h.z) := cell_at x5 5
                  have HZZ : Hid (Hw (PS + 1 + 1) HB g2 cap2 f2 n2 w5 ∧ Em.Mi w5 FM (Nf + 1) (fun k => (putN fw v.s v.n k).map fun (x : Nat) => (x : Int)) ∧ Below PS w w5) := ⟨H5, M5, LL5⟩
                  clear H5 M5 LL5 x2 x5
                  go_wp2_with fail
                  refine (HBE.out w5).mono ?_
                  rintro e w6 ⟨rfl, L6⟩
                  obtain ⟨HX1, HX2, HX3⟩ := HZZ.out
                  have H6 := HX1.on L6
                  have M6 := HX2.on (L6.block _ HX2.lt)
                  have LL6 : Below PS w w6 := HX3.trans (L6.mono (by have := HX3.size; omega))
                  have so6 := kept L6 (lt_of so5) so5
                  have ro6 := kept L6 (lt_of ro5) ro5
                  have wo6 := kept L6 (lt_of wo5) wo5
                  have HPU : Calls Try.prog 54 #[.iface 94 (.pointer (some ⟨HB, 0, none⟩)), .iface 61 (.agg #[.int .i64 h.r.to, .int .i64 (h.z + 3), .int .i64 ((v.n : Int) + 1)])] w6 fun e w' => e = .returned (.tuple #[]) ∧ ∃ g' cap' f', Hw (PS + 1 + 1) HB g' cap' f' (n2 + 1) w' ∧ Heap f' (n2 + 1) ∧ (∀ u, (∃ k, k < n2 + 1 ∧ f' k = u) ↔ (∃ k, k < n2 ∧ f2 k = u) ∨ u = ⟨h.r.to, h.z + 3, v.n + 1⟩) ∧ Ko HB g2 w6 w' ∧ (g' = g2 ∨ w6.heap.size ≤ g') := heapPush_val (PS + 1 + 1) HB g2 cap2 n2 f2 ⟨h.r.to, h.z + 3, v.n + 1⟩ w6 H6 HPQ.out (by omega) (by have := lt_of ro6; omega)
                  have hlo := H6.lo
                  have hFg2 : FM ≠ g2 := by
                    obtain ⟨cur, -, hh, -⟩ := H6.heap
                    exact mi_off M6 hh
                  clear HX1 HX2 HX3 HZZ so5 ro5 wo5 L6 y0 y1 y2 z0 z1 z2 z3 z4 z5 H6
                  have HRE : Hid (_) := And.intro M6 LL6
                  clear M6 LL6
                  go_wp2_with fail
                  refine HPU.mono ?_
                  rintro e w7 ⟨rfl, g3, cap3, f3, H7, P7, S7, K7, hg7⟩
                  have LL7 : Below PS w w7 := HRE.out.2.trans (K7.below (by omega) (by omega) (by have := lt_of ro6; omega))
                  have so7 : w7.heap[PS]? = some (.cells #[.int .i64 v0.s, .int .i64 v0.y, .int .i64 (v0.n : Int), .int .i64 tt, .map (some mb)] 65) := (K7.block PS (lt_of so6) (by omega) (by omega)).trans so6
                  have ro7 : w7.heap[PS + 1]? = some (.cells #[.int .i64 0, .int .i64 0, .int .i64 0] 61) := (K7.block _ (lt_of ro6) (by omega) (by omega)).trans ro6
                  have wo7 : w7.heap[WB]? = some (.cells #[.int .i64 v.s, .int .i64 v.y, .int .i64 (v.n : Int)] 61) := (K7.block _ (lt_of wo6) (by omega) (fun h => hgq h.symm)).trans wo6
                  have M7 := HRE.out.1.on (K7.block _ HRE.out.1.lt (by omega) hFg2)
                  have HMN : Hid (∀ u, (∃ k, k < n2 + 1 ∧ f3 k = u) ↔ (∃ k, k < m ∧ f1 k = u) ∨ ∃ h ∈ (hopsAt H v.s).take (i + 1), v.y ≤ h.d ∧ u = ⟨h.r.to, h.z + 3, v.n + 1⟩) := fun u => by
                    rw [S7 u, HMQ.out u, HTK.out, or_assoc]
                    refine or_congr Iff.rfl ⟨fun hx => ?_, fun ⟨x, a, b, c⟩ => ?_⟩
                    · rcases hx with ⟨x, a, b, c⟩ | e
                      · exact ⟨x, List.mem_append_left _ a, b, c⟩
                      · exact ⟨h, List.mem_append_right _ (List.mem_singleton.2 rfl), hdd, e⟩
                    · rcases List.mem_append.1 a with a | a
                      · exact Or.inl ⟨x, a, b, c⟩
                      · obtain rfl := List.mem_singleton.1 a
                        exact Or.inr c
                  have hg8 : g3 ≠ WB := by
                    have := lt_of wo6
                    rcases hg7 with h | h <;> omega
                  have HZZ : Hid (Hw (PS + 1 + 1) HB g3 cap3 f3 (n2 + 1) w7 ∧ Em.Mi w7 FM (Nf + 1) (fun k => (putN fw v.s v.n k).map fun (x : Nat) => (x : Int)) ∧ Below PS w w7 ∧ Heap f3 (n2 + 1)) := ⟨H7, M7, LL7, P7⟩
                  have hn3 : n2 + 1 ≤ m + (i + 1) := by omega
                  clear H7 M7 LL7 P7 S7 K7 HRE so6 ro6 wo6 HPU hdd hg7 hlo
                  go_wp2
                  go_roundw
                  case rel => exact ⟨i + 1, n2 + 1, f3, g3, cap3, by go_num, by omega, HZZ.out.1, HZZ.out.2.2.2, HMN.out, hn3, HZZ.out.2.2.1, so7, ro7, wo7, HZZ.out.2.1, hg8⟩
                  case measure => simp [intOf]; omega
              · obtain rfl : i = LN := by omega
                have HMF : Hid (∀ u, (∃ k, k < n2 ∧ f2 k = u) ↔ (∃ k, k < m ∧ f1 k = u) ∨ ∃ h ∈ hopsAt H v.s, v.y ≤ h.d ∧ u = ⟨h.r.to, h.z + 3, v.n + 1⟩) := fun u => by
                  have := HMQ.out u
                  rw [List.take_of_length_le (by omega)] at this
                  exact this
                have HST : Hid (BsI H v0 tt mb PS HB FM w (gk - 1) f2 n2 g2 cap2 (Nf + 1) (putN fw v.s v.n) wr) := ⟨Hq, HPQ.out, Mq, HGO.out n2 f2 HMF.out, Lq, soq, roq, by have := HPH.out; omega, by omega⟩
                clear Hq Mq Lq soq roq woq hn2
                go_wp2
                go_roundg (gk - 1)
                case measure => omega
                case rel => exact ⟨f2, n2, g2, cap2, Nf + 1, putN fw v.s v.n, HST.out⟩
          | some k0 =>
            rw [hk] at lk
            simp only [Option.map_some, Option.getD_some, Option.isSome_some] at lk
            by_cases hk0 : k0 ≤ v.n
            · have HLV : Hid (Srch H v0.s v0.y tt ((List.range m).map f1) fw) := HLVG.out (Or.inr ⟨k0, hk, hk0⟩)
              have e7 : decide (k0 ≤ v.n) = true := decide_eq_true hk0
              clear hk h6
              have HST : Hid (BsI H v0 tt mb PS HB FM w (gk - 1) f1 m g cap Nf fw (w1.alloc (.cells #[.int .i64 v.s, .int .i64 v.y, .int .i64 (v.n : Int)] 61))) := ⟨H2, P1.out, M2, HLV.out, L2, so2, ro2, by omega, by omega⟩
              clear H2 M2 L2 so2 ro2 wo2
              go_wp2
              go_roundg (gk - 1)
              case measure => omega
              case rel => exact ⟨f1, m, g, cap, Nf, fw, HST.out⟩
            · have e7 : decide (k0 ≤ v.n) = false := decide_eq_false hk0
              have HLT : Hid (v.n < cst fw v.s) := by
                show v.n < cst fw v.s
                unfold cst
                rw [hk]
                show v.n < k0
                omega
              clear hk h6 HLVG
              obtain ⟨w3, hup, M3, G3⟩ := M2.put (by unfold maxLen; omega) hvs (v.n : Int)
              rw [putN_cast] at M3
              obtain ⟨ha, hc, hlk, HO3⟩ := hops_look HM.out hvs
              have e3 : ∀ k, k ≠ FM → k < (w1.alloc (.cells #[.int .i64 v.s, .int .i64 v.y, .int .i64 (v.n : Int)] 61)).heap.size → w3.heap[k]? = (w1.alloc (.cells #[.int .i64 v.s, .int .i64 v.y, .int .i64 (v.n : Int)] 61)).heap[k]? := fun k h1 h2 => G3.block k h2 (by simpa using h1)
              have L3 : Below PS w w3 := L2.trans ⟨G3.os, G3.tape, G3.output, G3.size, fun k hk => e3 k (by omega) (Nat.lt_of_lt_of_le (show k < w1.heap.size by omega) (show w1.heap.size ≤ (w1.heap.push _).size by simp))⟩
              have H3 : Hw (PS + 1 + 1) HB g cap f1 m w3 := H2.turnM G3 (by omega) M2.isMap
              have so3 : w3.heap[PS]? = some (.cells #[.int .i64 v0.s, .int .i64 v0.y, .int .i64 (v0.n : Int), .int .i64 tt, .map (some mb)] 65) := (e3 PS (by omega) (lt_of so2)).trans so2
              have ro3 : w3.heap[PS + 1]? = some (.cells #[.int .i64 0, .int .i64 0, .int .i64 0] 61) := (e3 (PS + 1) (by omega) (lt_of ro2)).trans ro2
              have wo3 : w3.heap[w1.heap.size]? = some (.cells #[.int .i64 v.s, .int .i64 v.y, .int .i64 (v.n : Int)] 61) := (e3 w1.heap.size (by omega) (lt_of wo2)).trans wo2
              have hgw : g ≠ w1.heap.size := hgw2
              have hwb : w1.heap.size < w3.heap.size := lt_of wo3
              have hlk3 := hlk w3 (by rw [hPS]; exact L3)
              have HOH : Hid (∀ W, Below PS w W → Hops W ha (hopsAt H v.s)) := fun W L => HO3.on (by rw [hPS]; exact L)
              have HIN : Hid (∀ h ∈ hopsAt H v.s, Em.WfI h.r.to ∧ 0 ≤ h.z ∧ h.z ≤ 200000000 ∧ h.r.fr = v.s) := fun h hh => by
                obtain ⟨h1, h2⟩ := hopsAt_iff.1 hh
                obtain ⟨a1, a2, a3⟩ := HHB.out h h1
                exact ⟨a1, a2, a3, h2⟩
              have hLl : (hopsAt H v.s).length ≤ 64000 := Nat.le_trans (hopsAt_len H v.s) hH
              have HGO : Hid (∀ (n2 : Nat) (f2 : Nat → Vw), (∀ u, (∃ k, k < n2 ∧ f2 k = u) ↔ (∃ k, k < m ∧ f1 k = u) ∨ ∃ h ∈ hopsAt H v.s, v.y ≤ h.d ∧ u = ⟨h.r.to, h.z + 3, v.n + 1⟩) → Srch H v0.s v0.y tt ((List.range n2).map f2) (putN fw v.s v.n)) := fun n2 f2 hm => by
                refine Srch.go HF.out HSR.out HTP.out HNE.out HN6.out (fun u hu => ?_) (fun u hu => ?_) (fun h h1 h2 h3 => ?_) (fun st => rfl)
                · rcases (HMM.out u).1 (mem_ways.1 hu) with h | h
                  · exact Or.inr (mem_ways.2 ((hm u).2 (Or.inl h)))
                  · exact Or.inl h
                · rcases (hm u).1 (mem_ways.1 hu) with h | ⟨h, h1, h2, h3⟩
                  · exact Or.inl (mem_ways.2 ((HMM.out u).2 (Or.inl h)))
                  · obtain ⟨h4, h5⟩ := hopsAt_iff.1 h1
                    exact Or.inr ⟨h, h4, h5, h2, h3⟩
                · exact mem_ways.2 ((hm _).2 (Or.inr ⟨h, hopsAt_iff.2 ⟨h1, h2⟩, h3, rfl⟩))
              have HPH : Hid (phi H (putN fw v.s v.n) + (hopsAt H v.s).length ≤ phi H fw) := phi_put HLT.out H
              have HPI : Hid (Hw (PS + 1 + 1) HB g cap f1 m w3 ∧ Heap f1 m ∧ Em.Mi w3 FM (Nf + 1) (fun k => (putN fw v.s v.n k).map fun (x : Nat) => (x : Int)) ∧ Below PS w w3) := ⟨H3, P1.out, M3, L3⟩
              have d3 : ∀ q u, (#[Value.int .i64 v0.s, .int .i64 v0.y, .int .i64 (v0.n : Int), .int .i64 tt, .map (some mb)] : Array Value)[q]? = some u → w3.cell? ⟨PS, q, none⟩ = some u := fun q u h => (cell_at so3 q).trans h
              have d34 := d3 4 _ rfl
              have t30 : w3.cell? ⟨w1.heap.size, 0, none⟩ = some (.int .i64 v.s) := cell_at wo3 0
              generalize hLN : (hopsAt H v.s).length = LN at *
              clear M3 G3 e3 L3 H3 d3 hlk HO3 so2 ro2 wo2 M2 H2 L2 hgw2
              go_wp2
              clear hup hlk3 d34 t30 lk t20 t21 t22 d23
              generalize w1.heap.size = WB at *
              go_loopw [61] (fun iv wq => ∃ (i n2 : Nat) (f2 : Nat → Vw) (g2 cap2 : Nat), iv = .int .i64 i ∧ i ≤ LN ∧ Hw (PS + 1 + 1) HB g2 cap2 f2 n2 wq ∧ Heap f2 n2 ∧ (∀ u, (∃ k, k < n2 ∧ f2 k = u) ↔ (∃ k, k < m ∧ f1 k = u) ∨ ∃ h ∈ (hopsAt H v.s).take i, v.y ≤ h.d ∧ u = ⟨h.r.to, h.z + 3, v.n + 1⟩) ∧ n2 ≤ m + i ∧ Below PS w wq ∧ wq.heap[PS]? = some (.cells #[.int .i64 v0.s, .int .i64 v0.y, .int .i64 (v0.n : Int), .int .i64 tt, .map (some mb)] 65) ∧ wq.heap[PS + 1]? = some (.cells #[.int .i64 0, .int .i64 0, .int .i64 0] 61) ∧ wq.heap[WB]? = some (.cells #[.int .i64 v.s, .int .i64 v.y, .int .i64 (v.n : Int)] 61) ∧ Em.Mi wq FM (Nf + 1) (fun k => (putN fw v.s v.n k).map fun (x : Nat) => (x : Int)) ∧ g2 ≠ WB) (fun iv _ => LN - (intOf iv).toNat)
              case atStart => exact ⟨0, m, f1, g, cap, rfl, Nat.zero_le _, HPI.out.1, HPI.out.2.1, fun u => by simp, Nat.le_refl _, HPI.out.2.2.2, so3, ro3, wo3, HPI.out.2.2.1, hgw⟩
              case round =>
                clear so3 ro3 wo3 hgw HPI
                obtain ⟨i, n2, f2, g2, cap2, rfl, hiL, Hq, Pq, Mmq, hn2, Lq, soq, roq, woq, Mq, hgq⟩ := hrel
                have HPQ : Hid (Heap f2 n2) := Pq
                have HMQ : Hid (∀ u, (∃ k, k < n2 ∧ f2 k = u) ↔ (∃ k, k < m ∧ f1 k = u) ∨ ∃ h ∈ (hopsAt H v.s).take i, v.y ≤ h.d ∧ u = ⟨h.r.to, h.z + 3, v.n + 1⟩) := Mmq
                clear Pq Mmq
                by_cases hin : i < LN
                · have hi1 : (i : Int) < (LN : Int) := by omega
                  have hil : i < (hopsAt H v.s).length := by rw [hLN]; exact hin
                  obtain ⟨gh, ea, hgh, s0, s1, s2, s3, s4, s5⟩ := HOH.out wr Lq i hil
                  obtain ⟨h, hh⟩ : ∃ h, (hopsAt H v.s)[i] = h := ⟨_, rfl⟩
                  rw [hh] at s0 s1 s2 s3 s4 s5
                  obtain ⟨k1, k2, k3, k4⟩ := HIN.out h (by rw [← hh]; exact List.getElem_mem hil)
                  have HTK : Hid ((hopsAt H v.s).take (i + 1) = (hopsAt H v.s).take i ++ [h]) := by
                    show _ = _
                    rw [List.take_succ_eq_append_getElem hil, hh]
                  subst ea
                  have NX := new_below wr (.cells #[.int .i64 h.r.tr, .int .i64 h.r.dy, .int .i64 h.r.fr, .int .i64 h.r.to, .int .i64 h.d, .int .i64 h.z] 76)
                  have x2 := heap_new wr (.cells #[.int .i64 h.r.tr, .int .i64 h.r.dy, .int .i64 h.r.fr, .int .i64 h.r.to, .int .i64 h.d, .int .i64 h.z] 76)
                  have sz2 : (wr.alloc (.cells #[.int .i64 h.r.tr, .int .i64 h.r.dy, .int .i64 h.r.fr, .int .i64 h.r.to, .int .i64 h.d, .int .i64 h.z] 76)).heap.size = wr.heap.size + 1 := Array.size_push ..
                  have Hx := Hq.on NX
                  have Lx : Below PS w (wr.alloc (.cells #[.int .i64 h.r.tr, .int .i64 h.r.dy, .int .i64 h.r.fr, .int .i64 h.r.to, .int .i64 h.d, .int .i64 h.z] 76)) := Lq.trans (NX.mono (by have := Lq.size; omega))
                  have sox := heap_old soq (.cells #[.int .i64 h.r.tr, .int .i64 h.r.dy, .int .i64 h.r.fr, .int .i64 h.r.to, .int .i64 h.d, .int .i64 h.z] 76)
                  have rox := heap_old roq (.cells #[.int .i64 h.r.tr, .int .i64 h.r.dy, .int .i64 h.r.fr, .int .i64 h.r.to, .int .i64 h.d, .int .i64 h.z] 76)
                  have wox := heap_old woq (.cells #[.int .i64 h.r.tr, .int .i64 h.r.dy, .int .i64 h.r.fr, .int .i64 h.r.to, .int .i64 h.d, .int .i64 h.z] 76)
                  have Mx := Mq.on (NX.block _ Mq.lt)
                  have hwx : WB < wr.heap.size := lt_of woq
                  have hg2 : g2 < wr.heap.size := Hq.lt
                  have HXX : Hid (Hw (PS + 1 + 1) HB g2 cap2 f2 n2 (wr.alloc (.cells #[.int .i64 h.r.tr, .int .i64 h.r.dy, .int .i64 h.r.fr, .int .i64 h.r.to, .int .i64 h.d, .int .i64 h.z] 76)) ∧ Em.Mi (wr.alloc (.cells #[.int .i64 h.r.tr, .int .i64 h.r.dy, .int .i64 h.r.fr, .int .i64 h.r.to, .int .i64 h.d, .int .i64 h.z] 76)) FM (Nf + 1) (fun k => (putN fw v.s v.n k).map fun (x : Nat) => (x : Int)) ∧ Below PS w (wr.alloc (.cells #[.int .i64 h.r.tr, .int .i64 h.r.dy, .int .i64 h.r.fr, .int .i64 h.r.to, .int .i64 h.d, .int .i64 h.z] 76))) := ⟨Hx, Mx, Lx⟩
                  clear Hx Mx Lx Hq Mq Lq NX soq roq woq hh hil k1
                  have HTA : Hid (∀ W : World, _) := fun W => Tn.takes_val h.r h.d h.z v.s v.y (v.n : Int) W
                  have HBE : Hid (∀ W : World, _) := fun W => Tn.behind_val h.r h.d h.z v.s v.y (v.n : Int) W k2 k3 (by omega) (by omega)
                  have e1 : (h.r.fr == v.s) = true := by simpa using k4
                  clear k4
                  have y0 : (wr.alloc (.cells #[.int .i64 h.r.tr, .int .i64 h.r.dy, .int .i64 h.r.fr, .int .i64 h.r.to, .int .i64 h.d, .int .i64 h.z] 76)).cell? ⟨WB, 0, none⟩ = some (.int .i64 v.s) := cell_at wox 0
                  have y1 : (wr.alloc (.cells #[.int .i64 h.r.tr, .int .i64 h.r.dy, .int .i64 h.r.fr, .int .i64 h.r.to, .int .i64 h.d, .int .i64 h.z] 76)).cell? ⟨WB, 1, none⟩ = some (.int .i64 v.y) := cell_at wox 1
                  have y2 : (wr.alloc (.cells #[.int .i64 h.r.tr, .int .i64 h.r.dy, .int .i64 h.r.fr, .int .i64 h.r.to, .int .i64 h.d, .int .i64 h.z] 76)).cell? ⟨WB, 2, none⟩ = some (.int .i64 (v.n : Int)) := cell_at wox 2
                  have z0 : (wr.alloc (.cells #[.int .i64 h.r.tr, .int .i64 h.r.dy, .int .i64 h.r.fr, .int .i64 h.r.to, .int .i64 h.d, .int .i64 h.z] 76)).cell? ⟨wr.heap.size, 0, none⟩ = some (.int .i64 h.r.tr) := cell_at x2 0
                  have z1 : (wr.alloc (.cells #[.int .i64 h.r.tr, .int .i64 h.r.dy, .int .i64 h.r.fr, .int .i64 h.r.to, .int .i64 h.d, .int .i64 h.z] 76)).cell? ⟨wr.heap.size, 1, none⟩ = some (.int .i64 h.r.dy) := cell_at x2 1
                  have z2 : (wr.alloc (.cells #[.int .i64 h.r.tr, .int .i64 h.r.dy, .int .i64 h.r.fr, .int .i64 h.r.to, .int .i64 h.d, .int .i64 h.z] 76)).cell? ⟨wr.heap.size, 2, none⟩ = some (.int .i64 h.r.fr) := cell_at x2 2
                  have z3 : (wr.alloc (.cells #[.int .i64 h.r.tr, .int .i64 h.r.dy, .int .i64 h.r.fr, .int .i64 h.r.to, .int .i64 h.d, .int .i64 h.z] 76)).cell? ⟨wr.heap.size, 3, none⟩ = some (.int .i64 h.r.to) := cell_at x2 3
                  have z4 : (wr.alloc (.cells #[.int .i64 h.r.tr, .int .i64 h.r.dy, .int .i64 h.r.fr, .int .i64 h.r.to, .int .i64 h.d, .int .i64 h.z] 76)).cell? ⟨wr.heap.size, 4, none⟩ = some (.int .i64 h.d) := cell_at x2 4
                  have z5 : (wr.alloc (.cells #[.int .i64 h.r.tr, .int .i64 h.r.dy, .int .i64 h.r.fr, .int .i64 h.r.to, .int .i64 h.d, .int .i64 h.z] 76)).cell? ⟨wr.heap.size, 5, none⟩ = some (.int .i64 h.z) := cell_at x2 5
                  clear sz2
                  go_wp2_with fail
                  generalize wr.alloc (.cells #[.int .i64 h.r.tr, .int .i64 h.r.dy, .int .i64 h.r.fr, .int .i64 h.r.to, .int .i64 h.d, .int .i64 h.z] 76) = Wx at *
                  generalize wr.heap.size = HX at *
                  clear s0 s1 s2 s3 s4 s5 y0 y1 y2 z0 z1 z2 z3 z4 z5
                  refine (HTA.out Wx).mono ?_
                  rintro e w5 ⟨rfl, L5⟩
                  have so5 := kept L5 (lt_of sox) sox
                  have ro5 := kept L5 (lt_of rox) rox
                  have wo5 := kept L5 (lt_of wox) wox
                  have x5 := kept L5 (lt_of x2) x2
                  obtain ⟨HX1, HX2, HX3⟩ := HXX.out
                  have H5 := HX1.on L5
                  have M5 := HX2.on (L5.block _ HX2.lt)
                  have LL5 : Below PS w w5 := HX3.trans (L5.mono (by have := HX3.size; omega))
                  have hs5 : PS + 1 < w5.heap.size := lt_of ro5
                  clear HX1 HX2 HX3 HXX sox rox wox L5
                  rw [e1]
                  cases hd : decide (v.y ≤ h.d)
                  · have HMN : Hid (∀ u, (∃ k, k < n2 ∧ f2 k = u) ↔ (∃ k, k < m ∧ f1 k = u) ∨ ∃ h ∈ (hopsAt H v.s).take (i + 1), v.y ≤ h.d ∧ u = ⟨h.r.to, h.z + 3, v.n + 1⟩) := fun u => by
                      rw [HMQ.out u, HTK.out]
                      refine or_congr Iff.rfl ⟨fun ⟨x, a, b, c⟩ => ⟨x, List.mem_append_left _ a, b, c⟩, fun ⟨x, a, b, c⟩ => ?_⟩
                      rcases List.mem_append.1 a with a | a
                      · exact ⟨x, a, b, c⟩
                      · obtain rfl := List.mem_singleton.1 a
                        exact absurd b (of_decide_eq_false hd)
                    have HZZ : Hid (Hw (PS + 1 + 1) HB g2 cap2 f2 n2 w5 ∧ Em.Mi w5 FM (Nf + 1) (fun k => (putN fw v.s v.n k).map fun (x : Nat) => (x : Int)) ∧ Below PS w w5) := ⟨H5, M5, LL5⟩
                    clear H5 M5 LL5 hd x5 x2
                    have hn3 : n2 ≤ m + (i + 1) := by omega
                    go_wp2
                    go_roundw
                    case rel => exact ⟨i + 1, n2, f2, g2, cap2, by go_num, by omega, HZZ.out.1, HPQ.out, HMN.out, hn3, HZZ.out.2.2, so5, ro5, wo5, HZZ.out.2.1, hgq⟩
                    case measure => simp [intOf]; omega
                  · have hdd : v.y ≤ h.d := of_decide_eq_true hd
                    clear hd
                    have y0 : w5.cell? ⟨WB, 0, none⟩ = some (.int .i64 v.s) := cell_at wo5 0
                    have y1 : w5.cell? ⟨WB, 1, none⟩ = some (.int .i64 v.y) := cell_at wo5 1
                    have y2 : w5.cell? ⟨WB, 2, none⟩ = some (.int .i64 (v.n : Int)) := cell_at wo5 2
                    have z0 : w5.cell? ⟨HX, 0, none⟩ = some (.int .i64 h.r.tr) := cell_at x5 0
                    have z1 : w5.cell? ⟨HX, 1, none⟩ = some (.int .i64 h.r.dy) := cell_at x5 1
                    have z2 : w5.cell? ⟨HX, 2, none⟩ = some (.int .i64 h.r.fr) := cell_at x5 2
                    have z3 : w5.cell? ⟨HX, 3, none⟩ = some (.int .i64 h.r.to) := cell_at x5 3
                    have z4 : w5.cell? ⟨HX, 4, none⟩ = some (.int .i64 h.d) := cell_at x5 4
                    have z5 : w5.cell? ⟨HX, 5, none⟩ = some (.int .i64 h.z) := cell_at x5 5
                    have HZZ : Hid (Hw (PS + 1 + 1) HB g2 cap2 f2 n2 w5 ∧ Em.Mi w5 FM (Nf + 1) (fun k => (putN fw v.s v.n k).map fun (x : Nat) => (x : Int)) ∧ Below PS w w5) := ⟨H5, M5, LL5⟩
                    clear H5 M5 LL5 x2 x5
                    go_wp2_with fail
                    refine (HBE.out w5).mono ?_
                    rintro e w6 ⟨rfl, L6⟩
                    obtain ⟨HX1, HX2, HX3⟩ := HZZ.out
                    have H6 := HX1.on L6
                    have M6 := HX2.on (L6.block _ HX2.lt)
                    have LL6 : Below PS w w6 := HX3.trans (L6.mono (by have := HX3.size; omega))
                    have so6 := kept L6 (lt_of so5) so5
                    have ro6 := kept L6 (lt_of ro5) ro5
                    have wo6 := kept L6 (lt_of wo5) wo5
                    have HPU : Calls Try.prog 54 #[.iface 94 (.pointer (some ⟨HB, 0, none⟩)), .iface 61 (.agg #[.int .i64 h.r.to, .int .i64 (h.z + 3), .int .i64 ((v.n : Int) + 1)])] w6 fun e w' => e = .returned (.tuple #[]) ∧ ∃ g' cap' f', Hw (PS + 1 + 1) HB g' cap' f' (n2 + 1) w' ∧ Heap f' (n2 + 1) ∧ (∀ u, (∃ k, k < n2 + 1 ∧ f' k = u) ↔ (∃ k, k < n2 ∧ f2 k = u) ∨ u = ⟨h.r.to, h.z + 3, v.n + 1⟩) ∧ Ko HB g2 w6 w' ∧ (g' = g2 ∨ w6.heap.size ≤ g') := heapPush_val (PS + 1 + 1) HB g2 cap2 n2 f2 ⟨h.r.to, h.z + 3, v.n + 1⟩ w6 H6 HPQ.out (by omega) (by have := lt_of ro6; omega)
                    have hlo := H6.lo
                    have hFg2 : FM ≠ g2 := by
                      obtain ⟨cur, -, hh, -⟩ := H6.heap
                      exact mi_off M6 hh
                    clear HX1 HX2 HX3 HZZ so5 ro5 wo5 L6 y0 y1 y2 z0 z1 z2 z3 z4 z5 H6
                    have HRE : Hid (_) := And.intro M6 LL6
                    clear M6 LL6
                    go_wp2_with fail
                    refine HPU.mono ?_
                    rintro e w7 ⟨rfl, g3, cap3, f3, H7, P7, S7, K7, hg7⟩
                    have LL7 : Below PS w w7 := HRE.out.2.trans (K7.below (by omega) (by omega) (by have := lt_of ro6; omega))
                    have so7 : w7.heap[PS]? = some (.cells #[.int .i64 v0.s, .int .i64 v0.y, .int .i64 (v0.n : Int), .int .i64 tt, .map (some mb)] 65) := (K7.block PS (lt_of so6) (by omega) (by omega)).trans so6
                    have ro7 : w7.heap[PS + 1]? = some (.cells #[.int .i64 0, .int .i64 0, .int .i64 0] 61) := (K7.block _ (lt_of ro6) (by omega) (by omega)).trans ro6
                    have wo7 : w7.heap[WB]? = some (.cells #[.int .i64 v.s, .int .i64 v.y, .int .i64 (v.n : Int)] 61) := (K7.block _ (lt_of wo6) (by omega) (fun h => hgq h.symm)).trans wo6
                    have M7 := HRE.out.1.on (K7.block _ HRE.out.1.lt (by omega) hFg2)
                    have HMN : Hid (∀ u, (∃ k, k < n2 + 1 ∧ f3 k = u) ↔ (∃ k, k < m ∧ f1 k = u) ∨ ∃ h ∈ (hopsAt H v.s).take (i + 1), v.y ≤ h.d ∧ u = ⟨h.r.to, h.z + 3, v.n + 1⟩) := fun u => by
                      rw [S7 u, HMQ.out u, HTK.out, or_assoc]
                      refine or_congr Iff.rfl ⟨fun hx => ?_, fun ⟨x, a, b, c⟩ => ?_⟩
                      · rcases hx with ⟨x, a, b, c⟩ | e
                        · exact ⟨x, List.mem_append_left _ a, b, c⟩
                        · exact ⟨h, List.mem_append_right _ (List.mem_singleton.2 rfl), hdd, e⟩
                      · rcases List.mem_append.1 a with a | a
                        · exact Or.inl ⟨x, a, b, c⟩
                        · obtain rfl := List.mem_singleton.1 a
                          exact Or.inr c
                    have hg8 : g3 ≠ WB := by
                      have := lt_of wo6
                      rcases hg7 with h | h <;> omega
                    have HZZ : Hid (Hw (PS + 1 + 1) HB g3 cap3 f3 (n2 + 1) w7 ∧ Em.Mi w7 FM (Nf + 1) (fun k => (putN fw v.s v.n k).map fun (x : Nat) => (x : Int)) ∧ Below PS w w7 ∧ Heap f3 (n2 + 1)) := ⟨H7, M7, LL7, P7⟩
                    have hn3 : n2 + 1 ≤ m + (i + 1) := by omega
                    clear H7 M7 LL7 P7 S7 K7 HRE so6 ro6 wo6 HPU hdd hg7 hlo
                    go_wp2
                    go_roundw
                    case rel => exact ⟨i + 1, n2 + 1, f3, g3, cap3, by go_num, by omega, HZZ.out.1, HZZ.out.2.2.2, HMN.out, hn3, HZZ.out.2.2.1, so7, ro7, wo7, HZZ.out.2.1, hg8⟩
                    case measure => simp [intOf]; omega
                · obtain rfl : i = LN := by omega
                  have HMF : Hid (∀ u, (∃ k, k < n2 ∧ f2 k = u) ↔ (∃ k, k < m ∧ f1 k = u) ∨ ∃ h ∈ hopsAt H v.s, v.y ≤ h.d ∧ u = ⟨h.r.to, h.z + 3, v.n + 1⟩) := fun u => by
                    have := HMQ.out u
                    rw [List.take_of_length_le (by omega)] at this
                    exact this
                  have HST : Hid (BsI H v0 tt mb PS HB FM w (gk - 1) f2 n2 g2 cap2 (Nf + 1) (putN fw v.s v.n) wr) := ⟨Hq, HPQ.out, Mq, HGO.out n2 f2 HMF.out, Lq, soq, roq, by have := HPH.out; omega, by omega⟩
                  clear Hq Mq Lq soq roq woq hn2
                  go_wp2
                  go_roundg (gk - 1)
                  case measure => omega
                  case rel => exact ⟨f2, n2, g2, cap2, Nf + 1, putN fw v.s v.n, HST.out⟩

end Rd
end Go.Proofs.Ytfoccmhmgdengaa

/- Bounds of the hops of the trains; the map that the program gathers tells the hops of each station. -/
namespace Go.Proofs.Ytfoccmhmgdengaa
namespace Rd
open Tn (Tr Hd St okB runsB dayBit inB z0)
set_option linter.unusedSimpArgs false
set_option linter.unusedVariables false

theorem allH_bd {ts : List Tr} {day : Int} (hok : ∀ t ∈ ts, okB t.h t.l = true) (hd1 : day ≤ 90000) : ∀ h ∈ allH ts day, (1 ≤ h.r.to ∧ h.r.to ≤ 9999) ∧ (1 ≤ h.r.fr ∧ h.r.fr ≤ 9999) ∧ 0 ≤ h.z ∧ h.z ≤ 200000000 ∧ 0 ≤ h.d := by
  intro h hm
  unfold allH at hm
  obtain ⟨t, ht, hm⟩ := List.mem_flatMap.1 hm
  obtain ⟨i, hi4, hm⟩ := List.mem_flatMap.1 hm
  by_cases hd : 0 ≤ day - 2 + (i : Int) ∧ dayBit t.h.dy (day - 2 + (i : Int)) = 1
  · rw [if_pos hd] at hm
    obtain ⟨a, ha, hm⟩ := List.mem_flatMap.1 hm
    obtain ⟨s, hs, rfl⟩ := List.mem_map.1 hm
    have ha' := List.mem_range.1 ha
    have hi' := List.mem_range.1 hi4
    obtain ⟨k, hk, rfl⟩ := List.getElem_of_mem (List.mem_of_mem_drop hs)
    obtain ⟨a1, a2, a3, a4⟩ := Tn.ok_stop (hok t ht) a ha'
    obtain ⟨b1, b2, b3, b4⟩ := Tn.ok_stop (hok t ht) k hk
    unfold hopTo depAt
    rw [Tn.getD_at t.l a ha']
    simp only
    have h0 := hd.1
    clear hd
    refine ⟨b1, a1, ?_, ?_, ?_⟩ <;> omega
  · rw [if_neg hd] at hm
    simp at hm

theorem flat_len {α β : Type} (l : List α) (f : α → List β) (m : Nat) (h : ∀ x ∈ l, (f x).length ≤ m) : (l.flatMap f).length ≤ l.length * m := by
  induction l with
  | nil => simp
  | cons a l ih =>
    rw [List.flatMap_cons, List.length_append, List.length_cons, Nat.add_one_mul]
    have h1 := h a List.mem_cons_self
    have h2 := ih fun x hx => h x (List.mem_cons_of_mem _ hx)
    omega

theorem allH_len {ts : List Tr} {day : Int} (hok : ∀ t ∈ ts, okB t.h t.l = true) (hn : ts.length ≤ 40) : (allH ts day).length ≤ 64000 := by
  have h1 : (allH ts day).length ≤ ts.length * 1600 := by
    refine flat_len _ _ _ fun t ht => ?_
    have hl := (Tn.ok_len (hok t ht)).2
    have h2 := flat_len (List.range 4) (fun (i : Nat) => if 0 ≤ day - 2 + (i : Int) ∧ dayBit t.h.dy (day - 2 + (i : Int)) = 1 then (List.range t.l.length).flatMap fun a => (t.l.drop (a + 1)).map (hopTo t (t.l.getD a z0).st (day - 2 + (i : Int)) a) else []) 400 fun i hi => by
      by_cases c : 0 ≤ day - 2 + (i : Int) ∧ dayBit t.h.dy (day - 2 + (i : Int)) = 1
      · rw [if_pos c]
        have h3 := flat_len (List.range t.l.length) (fun a => (t.l.drop (a + 1)).map (hopTo t (t.l.getD a z0).st (day - 2 + (i : Int)) a)) 20 fun a ha => by
          rw [List.length_map, List.length_drop]
          omega
        rw [List.length_range] at h3
        have h4 : t.l.length * 20 ≤ 20 * 20 := Nat.mul_le_mul_right _ hl
        omega
      · rw [if_neg c]
        simp
    rw [List.length_range] at h2
    exact h2
  have h5 : ts.length * 1600 ≤ 40 * 1600 := Nat.mul_le_mul_right _ hn
  omega

theorem at_hops {ts : List Tr} {day : Int} (hok : ∀ t ∈ ts, okB t.h t.l = true) (hd : day ≤ 90000) : putA (fun _ => []) (allP ts day) = hopsAt (allH ts day) := by
  funext s
  rw [putA_at, allP_eq hok hd, List.nil_append]
  rfl

end Rd
end Go.Proofs.Ytfoccmhmgdengaa

/- The program's Earliest. -/
namespace Go.Proofs.Ytfoccmhmgdengaa
namespace Rd
open Go.ChangeShapes Go.WideShapes Go.ChangeAt Go.RowKit
open Pk (new_below join_below cell_at heap_new frozen_at lt_of kept heap_old info_of)
open Em (WfI Mi)
open Tn (Tr Hd St okB Trains)
set_option linter.unusedSimpArgs false
set_option linter.unusedVariables false

theorem end_last {H : List Hp} : ∀ {p : List Hp} {s y : Int}, isWay H s y p → p ≠ [] → ∃ h ∈ H, endY y p = h.z + 3
  | [], _, _, _, h => absurd rfl h
  | [a], _, _, w, _ => ⟨a, w.1, rfl⟩
  | a :: b :: p, _, _, w, _ => by
    obtain ⟨h, hm, e⟩ := end_last (p := b :: p) w.2.2.2 (by simp)
    exact ⟨h, hm, e⟩

theorem grow5 (w : World) (b : Nat) (x0 x1 x2 x3 x4 : Value) : w.grownBy (((((w.setCell ⟨b, 0, none⟩ x0).setCell ⟨b, 1, none⟩ x1).setCell ⟨b, 2, none⟩ x2).setCell ⟨b, 3, none⟩ x3).setCell ⟨b, 4, none⟩ x4) (some b) := by
  have L := (((((Below.refl 0 w).setCell (p := ⟨b, 0, none⟩) (Nat.zero_le _) x0).setCell (p := ⟨b, 1, none⟩) (Nat.zero_le _) x1).setCell (p := ⟨b, 2, none⟩) (Nat.zero_le _) x2).setCell (p := ⟨b, 3, none⟩) (Nat.zero_le _) x3).setCell (p := ⟨b, 4, none⟩) (Nat.zero_le _) x4
  refine ⟨L.os, L.tape, L.output, L.size, fun i hi hne => ?_⟩
  have hib : i ≠ b := fun e => hne (by rw [e])
  rw [Below.heap_setCell _ _ _ _ hib, Below.heap_setCell _ _ _ _ hib, Below.heap_setCell _ _ _ _ hib, Below.heap_setCell _ _ _ _ hib, Below.heap_setCell _ _ _ _ hib]

theorem set_five {w : World} {b : Nat} {a0 a1 a2 a3 a4 : Value} {t : TypeId} {fz : Nat × Nat} (h : w.heap[b]? = some (.cells #[a0, a1, a2, a3, a4] t fz)) (x0 x1 x2 x3 x4 : Value) : (((((w.setCell ⟨b, 0, none⟩ x0).setCell ⟨b, 1, none⟩ x1).setCell ⟨b, 2, none⟩ x2).setCell ⟨b, 3, none⟩ x3).setCell ⟨b, 4, none⟩ x4).heap[b]? = some (.cells #[x0, x1, x2, x3, x4] t fz) := by
  unfold World.setCell
  simp [Array.getElem?_modify, h]

theorem below5 {B P : Nat} {w0 w : World} (K : Below B w0 w) (h : B ≤ P) (x0 x1 x2 x3 x4 : Value) : Below B w0 (((((w.setCell ⟨P, 0, none⟩ x0).setCell ⟨P, 1, none⟩ x1).setCell ⟨P, 2, none⟩ x2).setCell ⟨P, 3, none⟩ x3).setCell ⟨P, 4, none⟩ x4) :=
  ((((K.setCell (p := ⟨P, 0, none⟩) h x0).setCell (p := ⟨P, 1, none⟩) h x1).setCell (p := ⟨P, 2, none⟩) h x2).setCell (p := ⟨P, 3, none⟩) h x3).setCell (p := ⟨P, 4, none⟩) h x4

theorem mp_keep {B b P : Nat} {f : Int → List Hp} {es : Array MapEntry} {clock : Nat} {w w1 : World} (M : Em.Mp B b f es clock w) (h1 : P < b) (h2 : b < B) (G : w.grownBy w1 (some P)) : Em.Mp B b f es clock w1 :=
  ⟨(G.block b (lt_of M.blk) (by simp; omega)).trans M.blk, M.keys, fun e he k hk => ⟨(M.rows e he k hk).1, own_kept (M.rows e he k hk).2 G (fun g hg e2 => by
    have := ((M.rows e he k hk).2.lt g hg).1
    simp only [Option.some.injEq] at e2
    omega)⟩, M.has, M.apart, M.st⟩

/-- What the search needs: its box and the map of hops. -/
structure SrI (H : List Hp) (fr first tt : Int) (w0 : World) (P mb : Nat) (W : World) : Prop where
  box : W.heap[P]? = some (.cells #[.int .i64 fr, .int .i64 first, .int .i64 0, .int .i64 tt, .map (some mb)] 65)
  map : ∃ B es clock, Em.Mp B mb (hopsAt H) es clock W
  low : Below w0.heap.size w0 W

set_option maxRecDepth 100000 in
set_option maxHeartbeats 8000000 in
theorem implEarliest_val (ts : List Tr) (a : Option Addr) (c : Nat) (fr tt day mi : Int) (w : World) (hn : ts.length ≤ 1048576) (hs : ∀ i (h : i < ts.length), ts[i].l.length ≤ 1048576) (hfr : WfI fr) (htt : WfI tt) (I : Trains w a ts) :
    Calls Try.prog 7 #[.slice a ts.length c, .int .i64 fr, .int .i64 tt, .int .i64 day, .int .i64 mi] w fun e w' => ∃ a' c' rs z b, e = .returned (.tuple #[.slice a' rs.length c', .int .i64 z, .bool b]) ∧ Told ts fr tt day mi rs z b ∧ rs.length ≤ 6 ∧ RideAt w' w.heap.size a' c' rs ∧ Below w.heap.size w w' := by
  have HL : Hid (∀ W, Below w.heap.size w W → _) := fun W (K : Below w.heap.size w W) => Tn.implLines_val a ts c W (by unfold maxLen; omega) (fun i h => by have := hs i h; unfold maxLen; omega) (I.on K)
  have H1 : Hid (∀ W, _) := fun W => Tn.between_val day 0 90000 W
  have H2 : Hid (∀ W, _) := fun W => Tn.between_val mi 0 1439 W
  have HD : Hid (Tn.inB day 0 90000 = true → 0 ≤ day ∧ day ≤ 90000) := Tn.inB_yes
  have HM : Hid (Tn.inB mi 0 1439 = true → 0 ≤ mi ∧ mi ≤ 1439) := Tn.inB_yes
  have HO : Hid (Tn.linesB ts = true → _) := lines_ok
  have HLT : Hid (∀ h : Tn.linesB ts = true, _) := fun h => hop_one (day := day) h
  have HE : Hid (earB ts fr tt day mi = (Tn.linesB ts && (!(fr == tt) && (Tn.inB day 0 90000 && Tn.inB mi 0 1439)))) := rfl
  have HNO : Hid (earB ts fr tt day mi = false → Told ts fr tt day mi [] 0 false) := fun h => Or.inr ⟨rfl, rfl, rfl, fun e => by rw [h] at e; cases e⟩
  have HI : Hid (Trains w a ts) := I
  have HF : Hid (WfI fr ∧ WfI tt) := ⟨hfr, htt⟩
  clear hfr htt I hs hn
  generalize hlb : Tn.linesB ts = b1 at HL HO HE HLT
  have HLB : Hid (_) := hlb
  clear hlb
  generalize Tn.inB day 0 90000 = b2 at *
  generalize Tn.inB mi 0 1439 = b3 at *
  go_enter Try.func7, Try.ntmps7
  go_wp2_with fail
  refine (HL.out _ (Below.refl _ _)).mono ?_
  rintro e w1 ⟨rfl, L1⟩
  cases b1
  · have HX : Hid (earB ts fr tt day mi = false) := by show _ = _; rw [HE.out]; rfl
    go_wp2
    refine bodyPost_ret (results_tmp3 rfl _ _ _) rfl ?_
    exact ⟨_, 0, [], 0, false, rfl, HNO.out HX.out, by simp, RideAt.zero _ _, L1⟩
  by_cases hft : fr = tt
  · have ht : (fr == tt) = true := beq_iff_eq.2 hft
    have HX : Hid (earB ts fr tt day mi = false) := by show _ = _; rw [HE.out, ht]; rfl
    subst hft
    go_wp2
    refine bodyPost_ret (results_tmp3 rfl _ _ _) rfl ?_
    exact ⟨_, 0, [], 0, false, rfl, HNO.out HX.out, by simp, RideAt.zero _ _, L1⟩
  have ht : (fr == tt) = false := beq_eq_false_iff_ne.2 hft
  have HNF : Hid (fr ≠ tt) := hft
  clear hft
  go_wp2_with fail
  refine (H1.out _).mono ?_
  rintro e w2 ⟨rfl, rfl⟩
  cases b2
  · have HX : Hid (earB ts fr tt day mi = false) := by show _ = _; rw [HE.out, ht]; rfl
    go_wp2
    refine bodyPost_ret (results_tmp3 rfl _ _ _) rfl ?_
    exact ⟨_, 0, [], 0, false, rfl, HNO.out HX.out, by simp, RideAt.zero _ _, L1⟩
  go_wp2_with fail
  refine (H2.out _).mono ?_
  rintro e w3 ⟨rfl, rfl⟩
  cases b3
  · have HX : Hid (earB ts fr tt day mi = false) := by show _ = _; rw [HE.out, ht]; rfl
    go_wp2
    refine bodyPost_ret (results_tmp3 rfl _ _ _) rfl ?_
    exact ⟨_, 0, [], 0, false, rfl, HNO.out HX.out, by simp, RideAt.zero _ _, L1⟩
  have hE : earB ts fr tt day mi = true := by rw [HE.out, ht]; rfl
  have HEE : Hid (earB ts fr tt day mi = true) := hE
  obtain ⟨hd0, hd1⟩ := HD.out (by first | rfl | trivial)
  obtain ⟨hm0, hm1⟩ := HM.out (by first | rfl | trivial)
  obtain ⟨hn40, hok⟩ := HO.out (by first | rfl | trivial)
  have HONE : Hid (∀ g ∈ allH ts day, ∀ x ∈ allH ts day, g.r = x.r → g = x) := HLT.out (by first | rfl | trivial)
  have HOK : Hid (_) := hok
  clear HE HNO HL H1 H2 HD HM HO hE HLT HLB hok
  obtain ⟨first, hfi⟩ : ∃ x, 1440 * day + mi = x := ⟨_, rfl⟩
  have hw1 : IntKind.i64.wrap (day * 1440) = day * 1440 := by rw [IntKind.wrap_i64]; omega
  have hw2 : IntKind.i64.wrap (day * 1440 + mi) = first := by rw [IntKind.wrap_i64]; omega
  have HFI : Hid (1440 * day + mi = first) := hfi
  have HDB : Hid (0 ≤ day ∧ day ≤ 90000 ∧ 0 ≤ mi ∧ mi ≤ 1439 ∧ ts.length ≤ 40) := ⟨hd0, hd1, hm0, hm1, hn40⟩
  clear hfi hd0 hd1 hm0 hm1 hn40
  have HAR : Hid (∀ W, Below w.heap.size w W → Calls Try.prog 30 #[.slice a ts.length c, .int .i64 day] W fun e w' => ∃ mb, Hid (mb = W.heap.size) ∧ e = .returned (.map (some mb)) ∧ (∃ es clock, Em.Mp (mb + 1) mb (hopsAt (allH ts day)) es clock w') ∧ Below W.heap.size W w') := fun W K => by
    have := hopsAround_val ts a c day W HDB.out.2.2.2.2 HDB.out.1 HDB.out.2.1 HOK.out (HI.out.on K)
    rw [at_hops HOK.out HDB.out.2.1] at this
    refine this.mono ?_
    rintro e w' ⟨h1, h2, h3⟩
    exact ⟨_, rfl, h1, h2, h3⟩
  have x4 : (w3.alloc (.cells #[.int .i64 fr, .int .i64 first, .int .i64 0] 61)).heap[w3.heap.size]? = some (.cells #[.int .i64 fr, .int .i64 first, .int .i64 0] 61) := heap_new w3 _
  have L4 : Below w.heap.size w (w3.alloc (.cells #[.int .i64 fr, .int .i64 first, .int .i64 0] 61)) := L1.trans ((new_below _ _).mono L1.size)
  have a0 : (w3.alloc (.cells #[.int .i64 fr, .int .i64 first, .int .i64 0] 61)).cell? ⟨w3.heap.size, 0, none⟩ = some (.int .i64 fr) := cell_at x4 0
  have a1 : (w3.alloc (.cells #[.int .i64 fr, .int .i64 first, .int .i64 0] 61)).cell? ⟨w3.heap.size, 1, none⟩ = some (.int .i64 first) := cell_at x4 1
  have a2 : (w3.alloc (.cells #[.int .i64 fr, .int .i64 first, .int .i64 0] 61)).cell? ⟨w3.heap.size, 2, none⟩ = some (.int .i64 0) := cell_at x4 2
  go_wp2_with fail
  clear a0 a1 a2
  generalize w3.alloc (.cells #[.int .i64 fr, .int .i64 first, .int .i64 0] 61) = W4 at *
  generalize w3.heap.size = P3 at *
  have HA4 : Hid (∀ W, Below W4.heap.size W4 W → _) := fun W (K : Below W4.heap.size W4 W) => HAR.out W (L4.trans (K.mono L4.size))
  have HL4 : Hid (Below w.heap.size w W4) := L4
  have K0 : Below W4.heap.size W4 W4.drew := (Below.refl _ _).drew
  have HKS : Hid (∀ W, Below W4.heap.size W4 W → W.heap[P3]? = some (.cells #[.int .i64 fr, .int .i64 first, .int .i64 0] 61)) := fun W K => kept K (lt_of x4) x4
  have HWC : Hid (∀ W : World, W.heap[P3]? = some (.cells #[.int .i64 fr, .int .i64 first, .int .i64 0] 61) → W.cell? ⟨P3, 0, none⟩ = some (.int .i64 fr) ∧ W.cell? ⟨P3, 1, none⟩ = some (.int .i64 first) ∧ W.cell? ⟨P3, 2, none⟩ = some (.int .i64 0)) := fun W q => ⟨cell_at q 0, cell_at q 1, cell_at q 2⟩
  clear HAR L4 L1 x4
  refine wp_region_held_drew (S := (fun w' => w'.heap[P3]? = some (.cells #[.int .i64 fr, .int .i64 first, .int .i64 0] 61))) (by kernel_rfl) ?_ (fun hHeld => ?_)
  · exact HKS.out _ K0
  refine wpAnyH_take (i := 0) (v := .agg #[.int .i64 fr, .int .i64 first, .int .i64 0]) rfl (by kernel_rfl) (by kernel_rfl) (by kernel_rfl) (fun _ _ _ h => h) (Or.inl ⟨by kernel_rfl, fun w hSw => by first | (obtain ⟨z0, z1, z2⟩ := HWC.out _ hSw; go_simp; done) | (go_simp; done) | (dsimp only at hSw; obtain ⟨hS0⟩ := hSw; go_simp; done) | rfl⟩) (by assumption) ?_
  simp only [Act.put, List.getElem_toArray, List.getElem_cons_succ, List.getElem_cons_zero, List.setIfInBounds_toArray, List.set_cons_succ, List.set_cons_zero]
  refine wpAnyH_take (i := 1) (v := .int .i64 tt) rfl (by kernel_rfl) (by kernel_rfl) (by kernel_rfl) (fun _ _ _ h => h) (Or.inl ⟨by kernel_rfl, fun w hSw => by first | (go_simp; done) | (dsimp only at hSw; obtain ⟨hS0⟩ := hSw; go_simp; done) | rfl⟩) (by assumption) ?_
  simp only [Act.put, List.getElem_toArray, List.getElem_cons_succ, List.getElem_cons_zero, List.setIfInBounds_toArray, List.set_cons_succ, List.set_cons_zero]
  refine wpAnyH_take (i := 2) (v := .slice a ts.length c) rfl (by kernel_rfl) (by kernel_rfl) (by kernel_rfl) (fun _ _ _ h => h) (Or.inl ⟨by kernel_rfl, fun w hSw => by first | (go_simp; done) | (dsimp only at hSw; obtain ⟨hS0⟩ := hSw; go_simp; done) | rfl⟩) (by assumption) ?_
  simp only [Act.put, List.getElem_toArray, List.getElem_cons_succ, List.getElem_cons_zero, List.setIfInBounds_toArray, List.set_cons_succ, List.set_cons_zero]
  refine wpAnyH_take (i := 3) (v := .int .i64 day) rfl (by kernel_rfl) (by kernel_rfl) (by kernel_rfl) (fun _ _ _ h => h) (Or.inl ⟨by kernel_rfl, fun w hSw => by first | (go_simp; done) | (dsimp only at hSw; obtain ⟨hS0⟩ := hSw; go_simp; done) | rfl⟩) (by assumption) ?_
  simp only [Act.put, List.getElem_toArray, List.getElem_cons_succ, List.getElem_cons_zero, List.setIfInBounds_toArray, List.set_cons_succ, List.set_cons_zero]
  refine wpAnyH_ready (rs := [4, 6]) (by kernel_rfl) (by simp) ?_
  refine AllReadyH.cons rfl (fun K hK => ?_) (AllReadyH.cons rfl (fun K hK => ?_) (AllReadyH.nil))
  · go_simp
    go_wp2_with ((try clear KX); go_at_call 30; (with_reducible refine (HA4.out _ (by first | exact K0 | exact KB0)).mono ?_); rintro e w5 ⟨mb, hmb, rfl, ⟨es, clock, M⟩, L5⟩; have K5 : Below W4.heap.size W4 w5 := (by first | exact K0.trans (L5.mono K0.size) | exact KA0.trans (L5.mono KA0.size)); (try (have x9b := kept L5 (lt_of x9a) x9a)))
    refine hK.out _ _ ?_ (fun hHeld2 => ?_)
    · first | with_reducible exact hHeld | exact HKS.out _ KX | (refine HKS.out _ ?_; with_reducible exact K5)
    clear hK K hHeld
    have hHeld := hHeld2
    clear hHeld2
    refine wpAnyH_ready (rs := [5, 6]) (by kernel_rfl) (by simp) ?_
    refine AllReadyH.cons rfl (fun K hK => ?_) (AllReadyH.cons rfl (fun K hK => ?_) (AllReadyH.nil))
    · go_simp
      refine hK.out _ _ ?_ (fun hHeld2 => ?_)
      · first | with_reducible exact hHeld | exact HKS.out _ KX | (refine HKS.out _ ?_; with_reducible exact K5)
      clear hK K hHeld
      have hHeld := hHeld2
      clear hHeld2
      refine wpAnyH_ready (rs := [6]) (by kernel_rfl) (by simp) ?_
      refine AllReadyH.cons rfl (fun K hK => ?_) (AllReadyH.nil)
      rw [if_pos (by kernel_rfl)]
      first | (have x9b := heap_new w5 (.cells #[.int .i64 0, .int .i64 0, .int .i64 0, .int .i64 0, .map none] 65); have KA5 : Below W4.heap.size W4 (w5.alloc (.cells #[.int .i64 0, .int .i64 0, .int .i64 0, .int .i64 0, .map none] 65)) := K5.trans ((new_below _ _).mono K5.size); have KX := KA5; go_simp) | (have x9a : (W4.drew.alloc (.cells #[.int .i64 0, .int .i64 0, .int .i64 0, .int .i64 0, .map none] 65)).heap[W4.heap.size]? = some (.cells #[.int .i64 0, .int .i64 0, .int .i64 0, .int .i64 0, .map none] 65) := heap_new W4.drew _; have KA0 : Below W4.heap.size W4 (W4.drew.alloc (.cells #[.int .i64 0, .int .i64 0, .int .i64 0, .int .i64 0, .map none] 65)) := K0.trans ((new_below _ _).mono K0.size); have KB0 : Below W4.heap.size W4 ((W4.alloc (.cells #[.int .i64 0, .int .i64 0, .int .i64 0, .int .i64 0, .map none] 65)).drew) := KA0; have KX := KA0; go_simp)
      try simp only [Act.put, List.getElem_toArray, List.getElem_cons_succ, List.getElem_cons_zero, List.setIfInBounds_toArray, List.set_cons_succ, List.set_cons_zero]
      refine hK.out _ _ ?_ (fun hHeld2 => ?_)
      · first | with_reducible exact hHeld | exact HKS.out _ KX | (refine HKS.out _ ?_; with_reducible exact K5)
      clear hK K hHeld
      have hHeld := hHeld2
      clear hHeld2
      refine wpAnyH_ready (rs := [7]) (by kernel_rfl) (by simp) ?_
      refine AllReadyH.cons rfl (fun K hK => ?_) AllReadyH.nil
      rw [if_pos (by kernel_rfl)]
      (try clear KX); (first | (have KZ := KA5; have KX : Below W4.heap.size W4 (w5.alloc (.cells #[.int .i64 fr, .int .i64 first, .int .i64 0, .int .i64 tt, .map (some mb)] 65)) := K5.trans ((new_below w5 _).mono K5.size); have XF : (w5.alloc (.cells #[.int .i64 fr, .int .i64 first, .int .i64 0, .int .i64 tt, .map (some mb)] 65)).heap[w5.heap.size]? = some (.cells #[.int .i64 fr, .int .i64 first, .int .i64 0, .int .i64 tt, .map (some mb)] 65) := heap_new w5 _; have MX : Em.Mp (mb + 1) mb (hopsAt (allH ts day)) es clock (w5.alloc (.cells #[.int .i64 fr, .int .i64 first, .int .i64 0, .int .i64 tt, .map (some mb)] 65)) := M.on (new_below w5 _)) | (have KZ := KA0; have KX : Below W4.heap.size W4 ((((((w5).setCell ⟨W4.heap.size, 0, none⟩ (.int .i64 fr)).setCell ⟨W4.heap.size, 1, none⟩ (.int .i64 first)).setCell ⟨W4.heap.size, 2, none⟩ (.int .i64 0)).setCell ⟨W4.heap.size, 3, none⟩ (.int .i64 tt)).setCell ⟨W4.heap.size, 4, none⟩ (.map (some mb))) := below5 K5 (Nat.le_refl _) _ _ _ _ _; have XF : ((((((w5).setCell ⟨W4.heap.size, 0, none⟩ (.int .i64 fr)).setCell ⟨W4.heap.size, 1, none⟩ (.int .i64 first)).setCell ⟨W4.heap.size, 2, none⟩ (.int .i64 0)).setCell ⟨W4.heap.size, 3, none⟩ (.int .i64 tt)).setCell ⟨W4.heap.size, 4, none⟩ (.map (some mb))).heap[W4.heap.size]? = some (.cells #[.int .i64 fr, .int .i64 first, .int .i64 0, .int .i64 tt, .map (some mb)] 65) := set_five x9b _ _ _ _ _; have MX : Em.Mp (mb + 1) mb (hopsAt (allH ts day)) es clock ((((((w5).setCell ⟨W4.heap.size, 0, none⟩ (.int .i64 fr)).setCell ⟨W4.heap.size, 1, none⟩ (.int .i64 first)).setCell ⟨W4.heap.size, 2, none⟩ (.int .i64 0)).setCell ⟨W4.heap.size, 3, none⟩ (.int .i64 tt)).setCell ⟨W4.heap.size, 4, none⟩ (.map (some mb))) := mp_keep M (by rw [hmb.out]; exact lt_of x9a) (Nat.lt_succ_self _) (grow5 _ _ _ _ _ _ _))); have p0 := cell_at x9b 0; have f0 := frozen_at x9b 0; have p1 := cell_at x9b 1; have f1 := frozen_at x9b 1; have p2 := cell_at x9b 2; have f2 := frozen_at x9b 2; have p3 := cell_at x9b 3; have f3 := frozen_at x9b 3; have p4 := cell_at x9b 4; have f4 := frozen_at x9b 4; simp at p0 p1 p2 p3 p4; go_simp
      try simp only [Act.put, List.getElem_toArray, List.getElem_cons_succ, List.getElem_cons_zero, List.setIfInBounds_toArray, List.set_cons_succ, List.set_cons_zero]
      refine hK.out _ _ ?_ (fun hHeld2 => ?_)
      · first | with_reducible exact hHeld | exact HKS.out _ KX | (refine HKS.out _ ?_; with_reducible exact K5)
      clear hK K hHeld
      have hHeld := hHeld2
      clear hHeld2
      refine wpAnyH_done (by kernel_rfl) ?_ _
      have HS : Hid (SrI (allH ts day) fr first tt W4 (w5.heap.size) mb (w5.alloc (.cells #[.int .i64 fr, .int .i64 first, .int .i64 0, .int .i64 tt, .map (some mb)] 65))) := ⟨XF, ⟨_, _, _, MX⟩, KX⟩
      obtain ⟨P9, hP9⟩ : ∃ P9, w5.heap.size = P9 := ⟨_, rfl⟩
      clear p0 p1 p2 p3 p4 f0 f1 f2 f3 f4 x9b KZ XF MX KX hHeld HKS HWC HA4 K0 M L5 K5 hmb
      try clear x9a KA0 KB0
      try clear KA5
      generalize (w5.alloc (.cells #[.int .i64 fr, .int .i64 first, .int .i64 0, .int .i64 tt, .map (some mb)] 65)) = Wf at *
      rw [hP9] at HS ⊢
      clear hP9
      have HBB : Hid (∀ h ∈ allH ts day, WfI h.r.to ∧ WfI h.r.fr ∧ 0 ≤ h.z ∧ h.z ≤ 200000000 ∧ 0 ≤ h.d) := fun h hm => by
        obtain ⟨h1, h2, h3, h4, h5⟩ := allH_bd HOK.out HDB.out.2.1 h hm
        exact ⟨wf_st h1.1 h1.2, wf_st h2.1 h2.2, h3, h4, h5⟩
      have HHL : Hid ((allH ts day).length ≤ 64000) := allH_len HOK.out HDB.out.2.2.2.2
      have HNZ : Hid (∀ h ∈ allH ts day, h ≠ hz0) := fun h hm e => by
        have := (allH_bd HOK.out HDB.out.2.1 h hm).2.1.1
        rw [e] at this
        exact absurd this (by decide)
      obtain ⟨B9, es9, clock9, M9⟩ := HS.out.map
      have HBV : Hid (Calls Try.prog 31 #[.agg #[.int .i64 fr, .int .i64 first, .int .i64 0, .int .i64 tt, .map (some mb)]] Wf fun e w' => Bend (allH ts day) ⟨fr, first, 0⟩ tt e ∧ Below Wf.heap.size Wf w') := best_val B9 mb (allH ts day) es9 clock9 ⟨fr, first, 0⟩ tt Wf HHL.out rfl HF.out.1 (fun h hm => ⟨(HBB.out h hm).1, (HBB.out h hm).2.2.1, (HBB.out h hm).2.2.2.1⟩) (allH_fwd HOK.out) HNF.out M9
      have HM9 : Hid (_) := M9
      have c0 : Wf.cell? ⟨P9, 0, none⟩ = some (.int .i64 fr) := cell_at HS.out.box 0
      have c1 : Wf.cell? ⟨P9, 1, none⟩ = some (.int .i64 first) := cell_at HS.out.box 1
      have c2 : Wf.cell? ⟨P9, 2, none⟩ = some (.int .i64 0) := cell_at HS.out.box 2
      have c3 : Wf.cell? ⟨P9, 3, none⟩ = some (.int .i64 tt) := cell_at HS.out.box 3
      have c4 : Wf.cell? ⟨P9, 4, none⟩ = some (.map (some mb)) := cell_at HS.out.box 4
      have HLW : Hid (Below w.heap.size w Wf) := HL4.out.trans (HS.out.low.mono HL4.out.size)
      clear M9
      go_wp2_with fail
      refine HBV.out.mono ?_
      rintro e w6 ⟨hB, L6⟩
      have LW6 : Below w.heap.size w w6 := HLW.out.trans (L6.mono HLW.out.size)
      clear HBV c0 c1 c2 c3 c4
      rcases hB with ⟨v, rfl, hv1, ⟨p0, hp, hpe, hpn⟩, hle⟩ | ⟨rfl, hno⟩
      · have HTM : Hid (Tim (allH ts day) tt v.y v.n fr first) := ⟨p0, hp.1, hpn, hp.2.2.2, Int.le_of_eq hpe⟩
        have h1 : 1 ≤ v.n := by have := hp.2.1; omega
        have h6 : v.n ≤ 6 := by have := hp.2.2.1; omega
        obtain ⟨hl, hlm, hle9⟩ := end_last hp.1 (by intro e; rw [e] at hpn; simp at hpn; omega)
        have hyb := HBB.out hl hlm
        have hy1 : 3 ≤ v.y ∧ v.y ≤ 200000003 := by
          rw [hpe] at hle9
          omega
        have hw3 : IntKind.i64.wrap (v.y - 3) = v.y - 3 := by rw [IntKind.wrap_i64]; omega
        have HLE : Hid (∀ q, isTrip (allH ts day) fr first tt q → v.y < endY first q ∨ (v.y = endY first q ∧ v.n ≤ q.length)) := hle
        have HV1 : Hid (v.s = tt) := hv1
        have HN6 : Hid (1 ≤ v.n ∧ v.n ≤ 6) := ⟨h1, h6⟩
        have x7 : (w6.alloc (.cells #[.int .i64 v.s, .int .i64 v.y, .int .i64 (v.n : Int)] 61)).heap[w6.heap.size]? = some (.cells #[.int .i64 v.s, .int .i64 v.y, .int .i64 (v.n : Int)] 61) := heap_new w6 _
        have s7 : (w6.alloc (.cells #[.int .i64 v.s, .int .i64 v.y, .int .i64 (v.n : Int)] 61)).heap[P9]? = some (.cells #[.int .i64 fr, .int .i64 first, .int .i64 0, .int .i64 tt, .map (some mb)] 65) := heap_old (kept L6 (lt_of HS.out.box) HS.out.box) _
        have LW7 : Below w.heap.size w (w6.alloc (.cells #[.int .i64 v.s, .int .i64 v.y, .int .i64 (v.n : Int)] 61)) := LW6.trans ((new_below w6 _).mono LW6.size)
        have HM7 : Hid (∀ W, Below (w6.alloc (.cells #[.int .i64 v.s, .int .i64 v.y, .int .i64 (v.n : Int)] 61)).heap.size (w6.alloc (.cells #[.int .i64 v.s, .int .i64 v.y, .int .i64 (v.n : Int)] 61)) W → Em.Mp B9 mb (hopsAt (allH ts day)) es9 clock9 W) := fun W K => (HM9.out.on L6).on ((new_below w6 (.cells #[.int .i64 v.s, .int .i64 v.y, .int .i64 (v.n : Int)] 61)).trans (K.mono (new_below w6 (.cells #[.int .i64 v.s, .int .i64 v.y, .int .i64 (v.n : Int)] 61)).size))
        clear hv1 hp hpe hpn hle hl hlm hle9 hyb HM9 HS L6 LW6 HLW
        go_wp2_with fail
        generalize w6.alloc (.cells #[.int .i64 v.s, .int .i64 v.y, .int .i64 (v.n : Int)] 61) = W7 at *
        generalize w6.heap.size = P15 at *
        have HRT : Hid (∀ W, Below W7.heap.size W7 W → Calls Try.prog 32 #[.agg #[.int .i64 fr, .int .i64 first, .int .i64 0, .int .i64 tt, .map (some mb)], .agg #[.int .i64 v.s, .int .i64 v.y, .int .i64 (v.n : Int)]] W fun e w' => ∃ a c p, e = .returned (.slice a p.length c) ∧ p.length = v.n ∧ Grd (allH ts day) tt v.y fr first p ∧ RideAt w' W.heap.size a c (ridesOf p) ∧ Below W.heap.size W w') := fun W K => ridesTo_val B9 mb (allH ts day) es9 clock9 ⟨fr, first, 0⟩ v tt W HHL.out HBB.out HNZ.out (HM7.out W K) HF.out.1 rfl (by rw [HV1.out]; exact HF.out.2) h1 h6 HV1.out HTM.out
        have K0 : Below W7.heap.size W7 W7.drew := (Below.refl _ _).drew
        have HKS : Hid (∀ W, Below W7.heap.size W7 W → W.heap[P9]? = some (.cells #[.int .i64 fr, .int .i64 first, .int .i64 0, .int .i64 tt, .map (some mb)] 65) ∧ W.heap[P15]? = some (.cells #[.int .i64 v.s, .int .i64 v.y, .int .i64 (v.n : Int)] 61)) := fun W K => ⟨kept K (lt_of s7) s7, kept K (lt_of x7) x7⟩
        have HSC : Hid (∀ W : World, (W.heap[P9]? = some (.cells #[.int .i64 fr, .int .i64 first, .int .i64 0, .int .i64 tt, .map (some mb)] 65) ∧ W.heap[P15]? = some (.cells #[.int .i64 v.s, .int .i64 v.y, .int .i64 (v.n : Int)] 61)) → W.cell? ⟨P9, 0, none⟩ = some (.int .i64 fr) ∧ W.cell? ⟨P9, 1, none⟩ = some (.int .i64 first) ∧ W.cell? ⟨P9, 2, none⟩ = some (.int .i64 0) ∧ W.cell? ⟨P9, 3, none⟩ = some (.int .i64 tt) ∧ W.cell? ⟨P9, 4, none⟩ = some (.map (some mb)) ∧ W.cell? ⟨P15, 0, none⟩ = some (.int .i64 v.s) ∧ W.cell? ⟨P15, 1, none⟩ = some (.int .i64 v.y) ∧ W.cell? ⟨P15, 2, none⟩ = some (.int .i64 (v.n : Int))) := fun W q => ⟨cell_at q.1 0, cell_at q.1 1, cell_at q.1 2, cell_at q.1 3, cell_at q.1 4, cell_at q.2 0, cell_at q.2 1, cell_at q.2 2⟩
        have HL7 : Hid (Below w.heap.size w W7) := LW7
        clear s7 x7 HM7 LW7 h1 h6 hy1
        refine wp_region_held_drew (S := (fun w' => w'.heap[P9]? = some (.cells #[.int .i64 fr, .int .i64 first, .int .i64 0, .int .i64 tt, .map (some mb)] 65) ∧ w'.heap[P15]? = some (.cells #[.int .i64 v.s, .int .i64 v.y, .int .i64 (v.n : Int)] 61))) (by kernel_rfl) ?_ (fun hHeld => ?_)
        · exact HKS.out _ K0
        refine wpAnyH_take (i := 0) (v := .agg #[.int .i64 fr, .int .i64 first, .int .i64 0, .int .i64 tt, .map (some mb)]) rfl (by kernel_rfl) (by kernel_rfl) (by kernel_rfl) (fun _ _ _ h => h) (Or.inl ⟨by kernel_rfl, fun w hSw => by first | (obtain ⟨z0, z1, z2, z3, z4, z5, z6, z7⟩ := HSC.out _ hSw; go_simp; done) | (go_simp; done) | (dsimp only at hSw; obtain ⟨hS0, hS1⟩ := hSw; go_simp; done) | rfl⟩) (by assumption) ?_
        simp only [Act.put, List.getElem_toArray, List.getElem_cons_succ, List.getElem_cons_zero, List.setIfInBounds_toArray, List.set_cons_succ, List.set_cons_zero]
        refine wpAnyH_take (i := 1) (v := .agg #[.int .i64 v.s, .int .i64 v.y, .int .i64 (v.n : Int)]) rfl (by kernel_rfl) (by kernel_rfl) (by kernel_rfl) (fun _ _ _ h => h) (Or.inl ⟨by kernel_rfl, fun w hSw => by first | (obtain ⟨z0, z1, z2, z3, z4, z5, z6, z7⟩ := HSC.out _ hSw; go_simp; done) | (go_simp; done) | (dsimp only at hSw; obtain ⟨hS0, hS1⟩ := hSw; go_simp; done) | rfl⟩) (by assumption) ?_
        simp only [Act.put, List.getElem_toArray, List.getElem_cons_succ, List.getElem_cons_zero, List.setIfInBounds_toArray, List.set_cons_succ, List.set_cons_zero]
        refine wpAnyH_take (i := 3) (v := .pointer (some ⟨P15, 1, none⟩)) rfl (by kernel_rfl) (by kernel_rfl) (by kernel_rfl) (fun _ _ _ h => h) (Or.inl ⟨by kernel_rfl, fun w hSw => by first | (go_simp; done) | (dsimp only at hSw; obtain ⟨hS0, hS1⟩ := hSw; go_simp; done) | rfl⟩) (by assumption) ?_
        simp only [Act.put, List.getElem_toArray, List.getElem_cons_succ, List.getElem_cons_zero, List.setIfInBounds_toArray, List.set_cons_succ, List.set_cons_zero]
        refine wpAnyH_take (i := 4) (v := .int .i64 v.y) rfl (by kernel_rfl) (by kernel_rfl) (by kernel_rfl) (fun _ _ _ h => h) (Or.inl ⟨by kernel_rfl, fun w hSw => by first | (obtain ⟨z0, z1, z2, z3, z4, z5, z6, z7⟩ := HSC.out _ hSw; go_simp; done) | (go_simp; done) | (dsimp only at hSw; obtain ⟨hS0, hS1⟩ := hSw; go_simp; done) | rfl⟩) (by assumption) ?_
        simp only [Act.put, List.getElem_toArray, List.getElem_cons_succ, List.getElem_cons_zero, List.setIfInBounds_toArray, List.set_cons_succ, List.set_cons_zero]
        refine wpAnyH_take (i := 5) (v := .int .i64 (v.y - 3)) rfl (by kernel_rfl) (by kernel_rfl) (by kernel_rfl) (fun _ _ _ h => h) (Or.inl ⟨by kernel_rfl, fun w hSw => by first | (go_simp; done) | (dsimp only at hSw; obtain ⟨hS0, hS1⟩ := hSw; go_simp; done) | rfl⟩) (by assumption) ?_
        simp only [Act.put, List.getElem_toArray, List.getElem_cons_succ, List.getElem_cons_zero, List.setIfInBounds_toArray, List.set_cons_succ, List.set_cons_zero]
        refine wpAnyH_ready (rs := [2]) (by kernel_rfl) (by simp) ?_
        refine AllReadyH.cons rfl (fun K hK => ?_) AllReadyH.nil
        go_simp
        go_wp2_with (go_at_call 32; (with_reducible refine (HRT.out _ K0).mono ?_); rintro e w8 ⟨ra, rc, p, rfl, hpl, HG, HR, L8⟩; have K8 : Below W7.heap.size W7 w8 := K0.trans (L8.mono K0.size))
        refine hK.out _ _ ?_ (fun hHeld2 => ?_)
        · first | with_reducible exact hHeld | exact HKS.out _ K8
        clear hK K hHeld
        have hHeld := hHeld2
        clear hHeld2
        refine wpAnyH_ready (rs := [6]) (by kernel_rfl) (by simp) ?_
        refine AllReadyH.cons rfl (fun K hK => ?_) AllReadyH.nil
        go_simp
        refine hK.out _ _ ?_ (fun hHeld2 => ?_)
        · first | with_reducible exact hHeld | exact HKS.out _ K8
        clear hK K hHeld
        have hHeld := hHeld2
        clear hHeld2
        refine wpAnyH_ready (rs := [7]) (by kernel_rfl) (by simp) ?_
        refine AllReadyH.cons rfl (fun K hK => ?_) AllReadyH.nil
        go_simp
        refine hK.out _ _ ?_ (fun hHeld2 => ?_)
        · first | with_reducible exact hHeld | exact HKS.out _ K8
        clear hK K hHeld
        have hHeld := hHeld2
        clear hHeld2
        refine wpAnyH_ready (rs := [8]) (by kernel_rfl) (by simp) ?_
        refine AllReadyH.cons rfl (fun K hK => ?_) AllReadyH.nil
        go_simp
        refine hK.out _ _ ?_ (fun hHeld2 => ?_)
        · first | with_reducible exact hHeld | exact HKS.out _ K8
        clear hK K hHeld
        have hHeld := hHeld2
        clear hHeld2
        refine wpAnyH_done (by kernel_rfl) ?_ _
        have HBE : Hid (isBest (allH ts day) fr first tt p ∧ endY first p = v.y) := grd_best HONE.out HLE.out HN6.out.1 HN6.out.2 hpl HG
        have HTN : Hid (Told ts fr tt day mi (ridesOf p) (v.y - 3) true) := Or.inl ⟨rfl, HEE.out, p, by rw [HFI.out]; exact HBE.out.1, by rw [HFI.out, HBE.out.2]; omega, rfl⟩
        have HFN : Hid ((ridesOf p).length ≤ 6 ∧ RideAt w8 w.heap.size ra rc (ridesOf p) ∧ Below w.heap.size w w8) := ⟨by rw [rides_len, hpl]; exact HN6.out.2, HR.lower (HL7.out.trans (K0.mono HL7.out.size)).size, HL7.out.trans (K8.mono HL7.out.size)⟩
        have hlen : (ridesOf p).length = p.length := rides_len p
        clear HKS HSC HRT hHeld K0 K8 L8 HR HG
        go_wp2
        refine bodyPost_ret (results_tmp3 rfl _ _ _) rfl ?_
        exact ⟨ra, rc, ridesOf p, v.y - 3, true, by rw [hlen, hpl] <;> rfl, HTN.out, HFN.out⟩
      · have HTN : Hid (Told ts fr tt day mi [] 0 false) := Or.inr ⟨rfl, rfl, rfl, fun _ => by rw [HFI.out]; exact hno⟩
        clear hno
        go_wp2
        refine bodyPost_ret (results_tmp3 rfl _ _ _) rfl ?_
        exact ⟨_, 0, [], 0, false, rfl, HTN.out, by simp, RideAt.zero _ _, LW6.trans ((new_below w6 _).mono LW6.size)⟩
    · rw [if_pos (by kernel_rfl)]
      first | (have x9b := heap_new w5 (.cells #[.int .i64 0, .int .i64 0, .int .i64 0, .int .i64 0, .map none] 65); have KA5 : Below W4.heap.size W4 (w5.alloc (.cells #[.int .i64 0, .int .i64 0, .int .i64 0, .int .i64 0, .map none] 65)) := K5.trans ((new_below _ _).mono K5.size); have KX := KA5; go_simp) | (have x9a : (W4.drew.alloc (.cells #[.int .i64 0, .int .i64 0, .int .i64 0, .int .i64 0, .map none] 65)).heap[W4.heap.size]? = some (.cells #[.int .i64 0, .int .i64 0, .int .i64 0, .int .i64 0, .map none] 65) := heap_new W4.drew _; have KA0 : Below W4.heap.size W4 (W4.drew.alloc (.cells #[.int .i64 0, .int .i64 0, .int .i64 0, .int .i64 0, .map none] 65)) := K0.trans ((new_below _ _).mono K0.size); have KB0 : Below W4.heap.size W4 ((W4.alloc (.cells #[.int .i64 0, .int .i64 0, .int .i64 0, .int .i64 0, .map none] 65)).drew) := KA0; have KX := KA0; go_simp)
      try simp only [Act.put, List.getElem_toArray, List.getElem_cons_succ, List.getElem_cons_zero, List.setIfInBounds_toArray, List.set_cons_succ, List.set_cons_zero]
      refine hK.out _ _ ?_ (fun hHeld2 => ?_)
      · first | with_reducible exact hHeld | exact HKS.out _ KX | (refine HKS.out _ ?_; with_reducible exact K5)
      clear hK K hHeld
      have hHeld := hHeld2
      clear hHeld2
      refine wpAnyH_ready (rs := [5]) (by kernel_rfl) (by simp) ?_
      refine AllReadyH.cons rfl (fun K hK => ?_) (AllReadyH.nil)
      go_simp
      refine hK.out _ _ ?_ (fun hHeld2 => ?_)
      · first | with_reducible exact hHeld | exact HKS.out _ KX | (refine HKS.out _ ?_; with_reducible exact K5)
      clear hK K hHeld
      have hHeld := hHeld2
      clear hHeld2
      refine wpAnyH_ready (rs := [7]) (by kernel_rfl) (by simp) ?_
      refine AllReadyH.cons rfl (fun K hK => ?_) AllReadyH.nil
      rw [if_pos (by kernel_rfl)]
      (try clear KX); (first | (have KZ := KA5; have KX : Below W4.heap.size W4 (w5.alloc (.cells #[.int .i64 fr, .int .i64 first, .int .i64 0, .int .i64 tt, .map (some mb)] 65)) := K5.trans ((new_below w5 _).mono K5.size); have XF : (w5.alloc (.cells #[.int .i64 fr, .int .i64 first, .int .i64 0, .int .i64 tt, .map (some mb)] 65)).heap[w5.heap.size]? = some (.cells #[.int .i64 fr, .int .i64 first, .int .i64 0, .int .i64 tt, .map (some mb)] 65) := heap_new w5 _; have MX : Em.Mp (mb + 1) mb (hopsAt (allH ts day)) es clock (w5.alloc (.cells #[.int .i64 fr, .int .i64 first, .int .i64 0, .int .i64 tt, .map (some mb)] 65)) := M.on (new_below w5 _)) | (have KZ := KA0; have KX : Below W4.heap.size W4 ((((((w5).setCell ⟨W4.heap.size, 0, none⟩ (.int .i64 fr)).setCell ⟨W4.heap.size, 1, none⟩ (.int .i64 first)).setCell ⟨W4.heap.size, 2, none⟩ (.int .i64 0)).setCell ⟨W4.heap.size, 3, none⟩ (.int .i64 tt)).setCell ⟨W4.heap.size, 4, none⟩ (.map (some mb))) := below5 K5 (Nat.le_refl _) _ _ _ _ _; have XF : ((((((w5).setCell ⟨W4.heap.size, 0, none⟩ (.int .i64 fr)).setCell ⟨W4.heap.size, 1, none⟩ (.int .i64 first)).setCell ⟨W4.heap.size, 2, none⟩ (.int .i64 0)).setCell ⟨W4.heap.size, 3, none⟩ (.int .i64 tt)).setCell ⟨W4.heap.size, 4, none⟩ (.map (some mb))).heap[W4.heap.size]? = some (.cells #[.int .i64 fr, .int .i64 first, .int .i64 0, .int .i64 tt, .map (some mb)] 65) := set_five x9b _ _ _ _ _; have MX : Em.Mp (mb + 1) mb (hopsAt (allH ts day)) es clock ((((((w5).setCell ⟨W4.heap.size, 0, none⟩ (.int .i64 fr)).setCell ⟨W4.heap.size, 1, none⟩ (.int .i64 first)).setCell ⟨W4.heap.size, 2, none⟩ (.int .i64 0)).setCell ⟨W4.heap.size, 3, none⟩ (.int .i64 tt)).setCell ⟨W4.heap.size, 4, none⟩ (.map (some mb))) := mp_keep M (by rw [hmb.out]; exact lt_of x9a) (Nat.lt_succ_self _) (grow5 _ _ _ _ _ _ _))); have p0 := cell_at x9b 0; have f0 := frozen_at x9b 0; have p1 := cell_at x9b 1; have f1 := frozen_at x9b 1; have p2 := cell_at x9b 2; have f2 := frozen_at x9b 2; have p3 := cell_at x9b 3; have f3 := frozen_at x9b 3; have p4 := cell_at x9b 4; have f4 := frozen_at x9b 4; simp at p0 p1 p2 p3 p4; go_simp
      try simp only [Act.put, List.getElem_toArray, List.getElem_cons_succ, List.getElem_cons_zero, List.setIfInBounds_toArray, List.set_cons_succ, List.set_cons_zero]
      refine hK.out _ _ ?_ (fun hHeld2 => ?_)
      · first | with_reducible exact hHeld | exact HKS.out _ KX | (refine HKS.out _ ?_; with_reducible exact K5)
      clear hK K hHeld
      have hHeld := hHeld2
      clear hHeld2
      refine wpAnyH_done (by kernel_rfl) ?_ _
      have HS : Hid (SrI (allH ts day) fr first tt W4 (w5.heap.size) mb (w5.alloc (.cells #[.int .i64 fr, .int .i64 first, .int .i64 0, .int .i64 tt, .map (some mb)] 65))) := ⟨XF, ⟨_, _, _, MX⟩, KX⟩
      obtain ⟨P9, hP9⟩ : ∃ P9, w5.heap.size = P9 := ⟨_, rfl⟩
      clear p0 p1 p2 p3 p4 f0 f1 f2 f3 f4 x9b KZ XF MX KX hHeld HKS HWC HA4 K0 M L5 K5 hmb
      try clear x9a KA0 KB0
      try clear KA5
      generalize (w5.alloc (.cells #[.int .i64 fr, .int .i64 first, .int .i64 0, .int .i64 tt, .map (some mb)] 65)) = Wf at *
      rw [hP9] at HS ⊢
      clear hP9
      have HBB : Hid (∀ h ∈ allH ts day, WfI h.r.to ∧ WfI h.r.fr ∧ 0 ≤ h.z ∧ h.z ≤ 200000000 ∧ 0 ≤ h.d) := fun h hm => by
        obtain ⟨h1, h2, h3, h4, h5⟩ := allH_bd HOK.out HDB.out.2.1 h hm
        exact ⟨wf_st h1.1 h1.2, wf_st h2.1 h2.2, h3, h4, h5⟩
      have HHL : Hid ((allH ts day).length ≤ 64000) := allH_len HOK.out HDB.out.2.2.2.2
      have HNZ : Hid (∀ h ∈ allH ts day, h ≠ hz0) := fun h hm e => by
        have := (allH_bd HOK.out HDB.out.2.1 h hm).2.1.1
        rw [e] at this
        exact absurd this (by decide)
      obtain ⟨B9, es9, clock9, M9⟩ := HS.out.map
      have HBV : Hid (Calls Try.prog 31 #[.agg #[.int .i64 fr, .int .i64 first, .int .i64 0, .int .i64 tt, .map (some mb)]] Wf fun e w' => Bend (allH ts day) ⟨fr, first, 0⟩ tt e ∧ Below Wf.heap.size Wf w') := best_val B9 mb (allH ts day) es9 clock9 ⟨fr, first, 0⟩ tt Wf HHL.out rfl HF.out.1 (fun h hm => ⟨(HBB.out h hm).1, (HBB.out h hm).2.2.1, (HBB.out h hm).2.2.2.1⟩) (allH_fwd HOK.out) HNF.out M9
      have HM9 : Hid (_) := M9
      have c0 : Wf.cell? ⟨P9, 0, none⟩ = some (.int .i64 fr) := cell_at HS.out.box 0
      have c1 : Wf.cell? ⟨P9, 1, none⟩ = some (.int .i64 first) := cell_at HS.out.box 1
      have c2 : Wf.cell? ⟨P9, 2, none⟩ = some (.int .i64 0) := cell_at HS.out.box 2
      have c3 : Wf.cell? ⟨P9, 3, none⟩ = some (.int .i64 tt) := cell_at HS.out.box 3
      have c4 : Wf.cell? ⟨P9, 4, none⟩ = some (.map (some mb)) := cell_at HS.out.box 4
      have HLW : Hid (Below w.heap.size w Wf) := HL4.out.trans (HS.out.low.mono HL4.out.size)
      clear M9
      go_wp2_with fail
      refine HBV.out.mono ?_
      rintro e w6 ⟨hB, L6⟩
      have LW6 : Below w.heap.size w w6 := HLW.out.trans (L6.mono HLW.out.size)
      clear HBV c0 c1 c2 c3 c4
      rcases hB with ⟨v, rfl, hv1, ⟨p0, hp, hpe, hpn⟩, hle⟩ | ⟨rfl, hno⟩
      · have HTM : Hid (Tim (allH ts day) tt v.y v.n fr first) := ⟨p0, hp.1, hpn, hp.2.2.2, Int.le_of_eq hpe⟩
        have h1 : 1 ≤ v.n := by have := hp.2.1; omega
        have h6 : v.n ≤ 6 := by have := hp.2.2.1; omega
        obtain ⟨hl, hlm, hle9⟩ := end_last hp.1 (by intro e; rw [e] at hpn; simp at hpn; omega)
        have hyb := HBB.out hl hlm
        have hy1 : 3 ≤ v.y ∧ v.y ≤ 200000003 := by
          rw [hpe] at hle9
          omega
        have hw3 : IntKind.i64.wrap (v.y - 3) = v.y - 3 := by rw [IntKind.wrap_i64]; omega
        have HLE : Hid (∀ q, isTrip (allH ts day) fr first tt q → v.y < endY first q ∨ (v.y = endY first q ∧ v.n ≤ q.length)) := hle
        have HV1 : Hid (v.s = tt) := hv1
        have HN6 : Hid (1 ≤ v.n ∧ v.n ≤ 6) := ⟨h1, h6⟩
        have x7 : (w6.alloc (.cells #[.int .i64 v.s, .int .i64 v.y, .int .i64 (v.n : Int)] 61)).heap[w6.heap.size]? = some (.cells #[.int .i64 v.s, .int .i64 v.y, .int .i64 (v.n : Int)] 61) := heap_new w6 _
        have s7 : (w6.alloc (.cells #[.int .i64 v.s, .int .i64 v.y, .int .i64 (v.n : Int)] 61)).heap[P9]? = some (.cells #[.int .i64 fr, .int .i64 first, .int .i64 0, .int .i64 tt, .map (some mb)] 65) := heap_old (kept L6 (lt_of HS.out.box) HS.out.box) _
        have LW7 : Below w.heap.size w (w6.alloc (.cells #[.int .i64 v.s, .int .i64 v.y, .int .i64 (v.n : Int)] 61)) := LW6.trans ((new_below w6 _).mono LW6.size)
        have HM7 : Hid (∀ W, Below (w6.alloc (.cells #[.int .i64 v.s, .int .i64 v.y, .int .i64 (v.n : Int)] 61)).heap.size (w6.alloc (.cells #[.int .i64 v.s, .int .i64 v.y, .int .i64 (v.n : Int)] 61)) W → Em.Mp B9 mb (hopsAt (allH ts day)) es9 clock9 W) := fun W K => (HM9.out.on L6).on ((new_below w6 (.cells #[.int .i64 v.s, .int .i64 v.y, .int .i64 (v.n : Int)] 61)).trans (K.mono (new_below w6 (.cells #[.int .i64 v.s, .int .i64 v.y, .int .i64 (v.n : Int)] 61)).size))
        clear hv1 hp hpe hpn hle hl hlm hle9 hyb HM9 HS L6 LW6 HLW
        go_wp2_with fail
        generalize w6.alloc (.cells #[.int .i64 v.s, .int .i64 v.y, .int .i64 (v.n : Int)] 61) = W7 at *
        generalize w6.heap.size = P15 at *
        have HRT : Hid (∀ W, Below W7.heap.size W7 W → Calls Try.prog 32 #[.agg #[.int .i64 fr, .int .i64 first, .int .i64 0, .int .i64 tt, .map (some mb)], .agg #[.int .i64 v.s, .int .i64 v.y, .int .i64 (v.n : Int)]] W fun e w' => ∃ a c p, e = .returned (.slice a p.length c) ∧ p.length = v.n ∧ Grd (allH ts day) tt v.y fr first p ∧ RideAt w' W.heap.size a c (ridesOf p) ∧ Below W.heap.size W w') := fun W K => ridesTo_val B9 mb (allH ts day) es9 clock9 ⟨fr, first, 0⟩ v tt W HHL.out HBB.out HNZ.out (HM7.out W K) HF.out.1 rfl (by rw [HV1.out]; exact HF.out.2) h1 h6 HV1.out HTM.out
        have K0 : Below W7.heap.size W7 W7.drew := (Below.refl _ _).drew
        have HKS : Hid (∀ W, Below W7.heap.size W7 W → W.heap[P9]? = some (.cells #[.int .i64 fr, .int .i64 first, .int .i64 0, .int .i64 tt, .map (some mb)] 65) ∧ W.heap[P15]? = some (.cells #[.int .i64 v.s, .int .i64 v.y, .int .i64 (v.n : Int)] 61)) := fun W K => ⟨kept K (lt_of s7) s7, kept K (lt_of x7) x7⟩
        have HSC : Hid (∀ W : World, (W.heap[P9]? = some (.cells #[.int .i64 fr, .int .i64 first, .int .i64 0, .int .i64 tt, .map (some mb)] 65) ∧ W.heap[P15]? = some (.cells #[.int .i64 v.s, .int .i64 v.y, .int .i64 (v.n : Int)] 61)) → W.cell? ⟨P9, 0, none⟩ = some (.int .i64 fr) ∧ W.cell? ⟨P9, 1, none⟩ = some (.int .i64 first) ∧ W.cell? ⟨P9, 2, none⟩ = some (.int .i64 0) ∧ W.cell? ⟨P9, 3, none⟩ = some (.int .i64 tt) ∧ W.cell? ⟨P9, 4, none⟩ = some (.map (some mb)) ∧ W.cell? ⟨P15, 0, none⟩ = some (.int .i64 v.s) ∧ W.cell? ⟨P15, 1, none⟩ = some (.int .i64 v.y) ∧ W.cell? ⟨P15, 2, none⟩ = some (.int .i64 (v.n : Int))) := fun W q => ⟨cell_at q.1 0, cell_at q.1 1, cell_at q.1 2, cell_at q.1 3, cell_at q.1 4, cell_at q.2 0, cell_at q.2 1, cell_at q.2 2⟩
        have HL7 : Hid (Below w.heap.size w W7) := LW7
        clear s7 x7 HM7 LW7 h1 h6 hy1
        refine wp_region_held_drew (S := (fun w' => w'.heap[P9]? = some (.cells #[.int .i64 fr, .int .i64 first, .int .i64 0, .int .i64 tt, .map (some mb)] 65) ∧ w'.heap[P15]? = some (.cells #[.int .i64 v.s, .int .i64 v.y, .int .i64 (v.n : Int)] 61))) (by kernel_rfl) ?_ (fun hHeld => ?_)
        · exact HKS.out _ K0
        refine wpAnyH_take (i := 0) (v := .agg #[.int .i64 fr, .int .i64 first, .int .i64 0, .int .i64 tt, .map (some mb)]) rfl (by kernel_rfl) (by kernel_rfl) (by kernel_rfl) (fun _ _ _ h => h) (Or.inl ⟨by kernel_rfl, fun w hSw => by first | (obtain ⟨z0, z1, z2, z3, z4, z5, z6, z7⟩ := HSC.out _ hSw; go_simp; done) | (go_simp; done) | (dsimp only at hSw; obtain ⟨hS0, hS1⟩ := hSw; go_simp; done) | rfl⟩) (by assumption) ?_
        simp only [Act.put, List.getElem_toArray, List.getElem_cons_succ, List.getElem_cons_zero, List.setIfInBounds_toArray, List.set_cons_succ, List.set_cons_zero]
        refine wpAnyH_take (i := 1) (v := .agg #[.int .i64 v.s, .int .i64 v.y, .int .i64 (v.n : Int)]) rfl (by kernel_rfl) (by kernel_rfl) (by kernel_rfl) (fun _ _ _ h => h) (Or.inl ⟨by kernel_rfl, fun w hSw => by first | (obtain ⟨z0, z1, z2, z3, z4, z5, z6, z7⟩ := HSC.out _ hSw; go_simp; done) | (go_simp; done) | (dsimp only at hSw; obtain ⟨hS0, hS1⟩ := hSw; go_simp; done) | rfl⟩) (by assumption) ?_
        simp only [Act.put, List.getElem_toArray, List.getElem_cons_succ, List.getElem_cons_zero, List.setIfInBounds_toArray, List.set_cons_succ, List.set_cons_zero]
        refine wpAnyH_take (i := 3) (v := .pointer (some ⟨P15, 1, none⟩)) rfl (by kernel_rfl) (by kernel_rfl) (by kernel_rfl) (fun _ _ _ h => h) (Or.inl ⟨by kernel_rfl, fun w hSw => by first | (go_simp; done) | (dsimp only at hSw; obtain ⟨hS0, hS1⟩ := hSw; go_simp; done) | rfl⟩) (by assumption) ?_
        simp only [Act.put, List.getElem_toArray, List.getElem_cons_succ, List.getElem_cons_zero, List.setIfInBounds_toArray, List.set_cons_succ, List.set_cons_zero]
        refine wpAnyH_take (i := 4) (v := .int .i64 v.y) rfl (by kernel_rfl) (by kernel_rfl) (by kernel_rfl) (fun _ _ _ h => h) (Or.inl ⟨by kernel_rfl, fun w hSw => by first | (obtain ⟨z0, z1, z2, z3, z4, z5, z6, z7⟩ := HSC.out _ hSw; go_simp; done) | (go_simp; done) | (dsimp only at hSw; obtain ⟨hS0, hS1⟩ := hSw; go_simp; done) | rfl⟩) (by assumption) ?_
        simp only [Act.put, List.getElem_toArray, List.getElem_cons_succ, List.getElem_cons_zero, List.setIfInBounds_toArray, List.set_cons_succ, List.set_cons_zero]
        refine wpAnyH_take (i := 5) (v := .int .i64 (v.y - 3)) rfl (by kernel_rfl) (by kernel_rfl) (by kernel_rfl) (fun _ _ _ h => h) (Or.inl ⟨by kernel_rfl, fun w hSw => by first | (go_simp; done) | (dsimp only at hSw; obtain ⟨hS0, hS1⟩ := hSw; go_simp; done) | rfl⟩) (by assumption) ?_
        simp only [Act.put, List.getElem_toArray, List.getElem_cons_succ, List.getElem_cons_zero, List.setIfInBounds_toArray, List.set_cons_succ, List.set_cons_zero]
        refine wpAnyH_ready (rs := [2]) (by kernel_rfl) (by simp) ?_
        refine AllReadyH.cons rfl (fun K hK => ?_) AllReadyH.nil
        go_simp
        go_wp2_with (go_at_call 32; (with_reducible refine (HRT.out _ K0).mono ?_); rintro e w8 ⟨ra, rc, p, rfl, hpl, HG, HR, L8⟩; have K8 : Below W7.heap.size W7 w8 := K0.trans (L8.mono K0.size))
        refine hK.out _ _ ?_ (fun hHeld2 => ?_)
        · first | with_reducible exact hHeld | exact HKS.out _ K8
        clear hK K hHeld
        have hHeld := hHeld2
        clear hHeld2
        refine wpAnyH_ready (rs := [6]) (by kernel_rfl) (by simp) ?_
        refine AllReadyH.cons rfl (fun K hK => ?_) AllReadyH.nil
        go_simp
        refine hK.out _ _ ?_ (fun hHeld2 => ?_)
        · first | with_reducible exact hHeld | exact HKS.out _ K8
        clear hK K hHeld
        have hHeld := hHeld2
        clear hHeld2
        refine wpAnyH_ready (rs := [7]) (by kernel_rfl) (by simp) ?_
        refine AllReadyH.cons rfl (fun K hK => ?_) AllReadyH.nil
        go_simp
        refine hK.out _ _ ?_ (fun hHeld2 => ?_)
        · first | with_reducible exact hHeld | exact HKS.out _ K8
        clear hK K hHeld
        have hHeld := hHeld2
        clear hHeld2
        refine wpAnyH_ready (rs := [8]) (by kernel_rfl) (by simp) ?_
        refine AllReadyH.cons rfl (fun K hK => ?_) AllReadyH.nil
        go_simp
        refine hK.out _ _ ?_ (fun hHeld2 => ?_)
        · first | with_reducible exact hHeld | exact HKS.out _ K8
        clear hK K hHeld
        have hHeld := hHeld2
        clear hHeld2
        refine wpAnyH_done (by kernel_rfl) ?_ _
        have HBE : Hid (isBest (allH ts day) fr first tt p ∧ endY first p = v.y) := grd_best HONE.out HLE.out HN6.out.1 HN6.out.2 hpl HG
        have HTN : Hid (Told ts fr tt day mi (ridesOf p) (v.y - 3) true) := Or.inl ⟨rfl, HEE.out, p, by rw [HFI.out]; exact HBE.out.1, by rw [HFI.out, HBE.out.2]; omega, rfl⟩
        have HFN : Hid ((ridesOf p).length ≤ 6 ∧ RideAt w8 w.heap.size ra rc (ridesOf p) ∧ Below w.heap.size w w8) := ⟨by rw [rides_len, hpl]; exact HN6.out.2, HR.lower (HL7.out.trans (K0.mono HL7.out.size)).size, HL7.out.trans (K8.mono HL7.out.size)⟩
        have hlen : (ridesOf p).length = p.length := rides_len p
        clear HKS HSC HRT hHeld K0 K8 L8 HR HG
        go_wp2
        refine bodyPost_ret (results_tmp3 rfl _ _ _) rfl ?_
        exact ⟨ra, rc, ridesOf p, v.y - 3, true, by rw [hlen, hpl] <;> rfl, HTN.out, HFN.out⟩
      · have HTN : Hid (Told ts fr tt day mi [] 0 false) := Or.inr ⟨rfl, rfl, rfl, fun _ => by rw [HFI.out]; exact hno⟩
        clear hno
        go_wp2
        refine bodyPost_ret (results_tmp3 rfl _ _ _) rfl ?_
        exact ⟨_, 0, [], 0, false, rfl, HTN.out, by simp, RideAt.zero _ _, LW6.trans ((new_below w6 _).mono LW6.size)⟩
  · rw [if_pos (by kernel_rfl)]
    first | (have x9b := heap_new w5 (.cells #[.int .i64 0, .int .i64 0, .int .i64 0, .int .i64 0, .map none] 65); have KA5 : Below W4.heap.size W4 (w5.alloc (.cells #[.int .i64 0, .int .i64 0, .int .i64 0, .int .i64 0, .map none] 65)) := K5.trans ((new_below _ _).mono K5.size); have KX := KA5; go_simp) | (have x9a : (W4.drew.alloc (.cells #[.int .i64 0, .int .i64 0, .int .i64 0, .int .i64 0, .map none] 65)).heap[W4.heap.size]? = some (.cells #[.int .i64 0, .int .i64 0, .int .i64 0, .int .i64 0, .map none] 65) := heap_new W4.drew _; have KA0 : Below W4.heap.size W4 (W4.drew.alloc (.cells #[.int .i64 0, .int .i64 0, .int .i64 0, .int .i64 0, .map none] 65)) := K0.trans ((new_below _ _).mono K0.size); have KB0 : Below W4.heap.size W4 ((W4.alloc (.cells #[.int .i64 0, .int .i64 0, .int .i64 0, .int .i64 0, .map none] 65)).drew) := KA0; have KX := KA0; go_simp)
    try simp only [Act.put, List.getElem_toArray, List.getElem_cons_succ, List.getElem_cons_zero, List.setIfInBounds_toArray, List.set_cons_succ, List.set_cons_zero]
    refine hK.out _ _ ?_ (fun hHeld2 => ?_)
    · first | with_reducible exact hHeld | exact HKS.out _ KX | (refine HKS.out _ ?_; with_reducible exact K5)
    clear hK K hHeld
    have hHeld := hHeld2
    clear hHeld2
    refine wpAnyH_ready (rs := [4]) (by kernel_rfl) (by simp) ?_
    refine AllReadyH.cons rfl (fun K hK => ?_) (AllReadyH.nil)
    go_simp
    go_wp2_with ((try clear KX); go_at_call 30; (with_reducible refine (HA4.out _ (by first | exact K0 | exact KB0)).mono ?_); rintro e w5 ⟨mb, hmb, rfl, ⟨es, clock, M⟩, L5⟩; have K5 : Below W4.heap.size W4 w5 := (by first | exact K0.trans (L5.mono K0.size) | exact KA0.trans (L5.mono KA0.size)); (try (have x9b := kept L5 (lt_of x9a) x9a)))
    refine hK.out _ _ ?_ (fun hHeld2 => ?_)
    · first | with_reducible exact hHeld | exact HKS.out _ KX | (refine HKS.out _ ?_; with_reducible exact K5)
    clear hK K hHeld
    have hHeld := hHeld2
    clear hHeld2
    refine wpAnyH_ready (rs := [5]) (by kernel_rfl) (by simp) ?_
    refine AllReadyH.cons rfl (fun K hK => ?_) (AllReadyH.nil)
    go_simp
    refine hK.out _ _ ?_ (fun hHeld2 => ?_)
    · first | with_reducible exact hHeld | exact HKS.out _ KX | (refine HKS.out _ ?_; with_reducible exact K5)
    clear hK K hHeld
    have hHeld := hHeld2
    clear hHeld2
    refine wpAnyH_ready (rs := [7]) (by kernel_rfl) (by simp) ?_
    refine AllReadyH.cons rfl (fun K hK => ?_) AllReadyH.nil
    rw [if_pos (by kernel_rfl)]
    (try clear KX); (first | (have KZ := KA5; have KX : Below W4.heap.size W4 (w5.alloc (.cells #[.int .i64 fr, .int .i64 first, .int .i64 0, .int .i64 tt, .map (some mb)] 65)) := K5.trans ((new_below w5 _).mono K5.size); have XF : (w5.alloc (.cells #[.int .i64 fr, .int .i64 first, .int .i64 0, .int .i64 tt, .map (some mb)] 65)).heap[w5.heap.size]? = some (.cells #[.int .i64 fr, .int .i64 first, .int .i64 0, .int .i64 tt, .map (some mb)] 65) := heap_new w5 _; have MX : Em.Mp (mb + 1) mb (hopsAt (allH ts day)) es clock (w5.alloc (.cells #[.int .i64 fr, .int .i64 first, .int .i64 0, .int .i64 tt, .map (some mb)] 65)) := M.on (new_below w5 _)) | (have KZ := KA0; have KX : Below W4.heap.size W4 ((((((w5).setCell ⟨W4.heap.size, 0, none⟩ (.int .i64 fr)).setCell ⟨W4.heap.size, 1, none⟩ (.int .i64 first)).setCell ⟨W4.heap.size, 2, none⟩ (.int .i64 0)).setCell ⟨W4.heap.size, 3, none⟩ (.int .i64 tt)).setCell ⟨W4.heap.size, 4, none⟩ (.map (some mb))) := below5 K5 (Nat.le_refl _) _ _ _ _ _; have XF : ((((((w5).setCell ⟨W4.heap.size, 0, none⟩ (.int .i64 fr)).setCell ⟨W4.heap.size, 1, none⟩ (.int .i64 first)).setCell ⟨W4.heap.size, 2, none⟩ (.int .i64 0)).setCell ⟨W4.heap.size, 3, none⟩ (.int .i64 tt)).setCell ⟨W4.heap.size, 4, none⟩ (.map (some mb))).heap[W4.heap.size]? = some (.cells #[.int .i64 fr, .int .i64 first, .int .i64 0, .int .i64 tt, .map (some mb)] 65) := set_five x9b _ _ _ _ _; have MX : Em.Mp (mb + 1) mb (hopsAt (allH ts day)) es clock ((((((w5).setCell ⟨W4.heap.size, 0, none⟩ (.int .i64 fr)).setCell ⟨W4.heap.size, 1, none⟩ (.int .i64 first)).setCell ⟨W4.heap.size, 2, none⟩ (.int .i64 0)).setCell ⟨W4.heap.size, 3, none⟩ (.int .i64 tt)).setCell ⟨W4.heap.size, 4, none⟩ (.map (some mb))) := mp_keep M (by rw [hmb.out]; exact lt_of x9a) (Nat.lt_succ_self _) (grow5 _ _ _ _ _ _ _))); have p0 := cell_at x9b 0; have f0 := frozen_at x9b 0; have p1 := cell_at x9b 1; have f1 := frozen_at x9b 1; have p2 := cell_at x9b 2; have f2 := frozen_at x9b 2; have p3 := cell_at x9b 3; have f3 := frozen_at x9b 3; have p4 := cell_at x9b 4; have f4 := frozen_at x9b 4; simp at p0 p1 p2 p3 p4; go_simp
    try simp only [Act.put, List.getElem_toArray, List.getElem_cons_succ, List.getElem_cons_zero, List.setIfInBounds_toArray, List.set_cons_succ, List.set_cons_zero]
    refine hK.out _ _ ?_ (fun hHeld2 => ?_)
    · first | with_reducible exact hHeld | exact HKS.out _ KX | (refine HKS.out _ ?_; with_reducible exact K5)
    clear hK K hHeld
    have hHeld := hHeld2
    clear hHeld2
    refine wpAnyH_done (by kernel_rfl) ?_ _
    have HS : Hid (SrI (allH ts day) fr first tt W4 (W4.heap.size) mb ((((((w5).setCell ⟨W4.heap.size, 0, none⟩ (.int .i64 fr)).setCell ⟨W4.heap.size, 1, none⟩ (.int .i64 first)).setCell ⟨W4.heap.size, 2, none⟩ (.int .i64 0)).setCell ⟨W4.heap.size, 3, none⟩ (.int .i64 tt)).setCell ⟨W4.heap.size, 4, none⟩ (.map (some mb)))) := ⟨XF, ⟨_, _, _, MX⟩, KX⟩
    obtain ⟨P9, hP9⟩ : ∃ P9, W4.heap.size = P9 := ⟨_, rfl⟩
    clear p0 p1 p2 p3 p4 f0 f1 f2 f3 f4 x9b KZ XF MX KX hHeld HKS HWC HA4 K0 M L5 K5 hmb
    try clear x9a KA0 KB0
    try clear KA5
    generalize ((((((w5).setCell ⟨W4.heap.size, 0, none⟩ (.int .i64 fr)).setCell ⟨W4.heap.size, 1, none⟩ (.int .i64 first)).setCell ⟨W4.heap.size, 2, none⟩ (.int .i64 0)).setCell ⟨W4.heap.size, 3, none⟩ (.int .i64 tt)).setCell ⟨W4.heap.size, 4, none⟩ (.map (some mb))) = Wf at *
    rw [hP9] at HS ⊢
    clear hP9
    have HBB : Hid (∀ h ∈ allH ts day, WfI h.r.to ∧ WfI h.r.fr ∧ 0 ≤ h.z ∧ h.z ≤ 200000000 ∧ 0 ≤ h.d) := fun h hm => by
      obtain ⟨h1, h2, h3, h4, h5⟩ := allH_bd HOK.out HDB.out.2.1 h hm
      exact ⟨wf_st h1.1 h1.2, wf_st h2.1 h2.2, h3, h4, h5⟩
    have HHL : Hid ((allH ts day).length ≤ 64000) := allH_len HOK.out HDB.out.2.2.2.2
    have HNZ : Hid (∀ h ∈ allH ts day, h ≠ hz0) := fun h hm e => by
      have := (allH_bd HOK.out HDB.out.2.1 h hm).2.1.1
      rw [e] at this
      exact absurd this (by decide)
    obtain ⟨B9, es9, clock9, M9⟩ := HS.out.map
    have HBV : Hid (Calls Try.prog 31 #[.agg #[.int .i64 fr, .int .i64 first, .int .i64 0, .int .i64 tt, .map (some mb)]] Wf fun e w' => Bend (allH ts day) ⟨fr, first, 0⟩ tt e ∧ Below Wf.heap.size Wf w') := best_val B9 mb (allH ts day) es9 clock9 ⟨fr, first, 0⟩ tt Wf HHL.out rfl HF.out.1 (fun h hm => ⟨(HBB.out h hm).1, (HBB.out h hm).2.2.1, (HBB.out h hm).2.2.2.1⟩) (allH_fwd HOK.out) HNF.out M9
    have HM9 : Hid (_) := M9
    have c0 : Wf.cell? ⟨P9, 0, none⟩ = some (.int .i64 fr) := cell_at HS.out.box 0
    have c1 : Wf.cell? ⟨P9, 1, none⟩ = some (.int .i64 first) := cell_at HS.out.box 1
    have c2 : Wf.cell? ⟨P9, 2, none⟩ = some (.int .i64 0) := cell_at HS.out.box 2
    have c3 : Wf.cell? ⟨P9, 3, none⟩ = some (.int .i64 tt) := cell_at HS.out.box 3
    have c4 : Wf.cell? ⟨P9, 4, none⟩ = some (.map (some mb)) := cell_at HS.out.box 4
    have HLW : Hid (Below w.heap.size w Wf) := HL4.out.trans (HS.out.low.mono HL4.out.size)
    clear M9
    go_wp2_with fail
    refine HBV.out.mono ?_
    rintro e w6 ⟨hB, L6⟩
    have LW6 : Below w.heap.size w w6 := HLW.out.trans (L6.mono HLW.out.size)
    clear HBV c0 c1 c2 c3 c4
    rcases hB with ⟨v, rfl, hv1, ⟨p0, hp, hpe, hpn⟩, hle⟩ | ⟨rfl, hno⟩
    · have HTM : Hid (Tim (allH ts day) tt v.y v.n fr first) := ⟨p0, hp.1, hpn, hp.2.2.2, Int.le_of_eq hpe⟩
      have h1 : 1 ≤ v.n := by have := hp.2.1; omega
      have h6 : v.n ≤ 6 := by have := hp.2.2.1; omega
      obtain ⟨hl, hlm, hle9⟩ := end_last hp.1 (by intro e; rw [e] at hpn; simp at hpn; omega)
      have hyb := HBB.out hl hlm
      have hy1 : 3 ≤ v.y ∧ v.y ≤ 200000003 := by
        rw [hpe] at hle9
        omega
      have hw3 : IntKind.i64.wrap (v.y - 3) = v.y - 3 := by rw [IntKind.wrap_i64]; omega
      have HLE : Hid (∀ q, isTrip (allH ts day) fr first tt q → v.y < endY first q ∨ (v.y = endY first q ∧ v.n ≤ q.length)) := hle
      have HV1 : Hid (v.s = tt) := hv1
      have HN6 : Hid (1 ≤ v.n ∧ v.n ≤ 6) := ⟨h1, h6⟩
      have x7 : (w6.alloc (.cells #[.int .i64 v.s, .int .i64 v.y, .int .i64 (v.n : Int)] 61)).heap[w6.heap.size]? = some (.cells #[.int .i64 v.s, .int .i64 v.y, .int .i64 (v.n : Int)] 61) := heap_new w6 _
      have s7 : (w6.alloc (.cells #[.int .i64 v.s, .int .i64 v.y, .int .i64 (v.n : Int)] 61)).heap[P9]? = some (.cells #[.int .i64 fr, .int .i64 first, .int .i64 0, .int .i64 tt, .map (some mb)] 65) := heap_old (kept L6 (lt_of HS.out.box) HS.out.box) _
      have LW7 : Below w.heap.size w (w6.alloc (.cells #[.int .i64 v.s, .int .i64 v.y, .int .i64 (v.n : Int)] 61)) := LW6.trans ((new_below w6 _).mono LW6.size)
      have HM7 : Hid (∀ W, Below (w6.alloc (.cells #[.int .i64 v.s, .int .i64 v.y, .int .i64 (v.n : Int)] 61)).heap.size (w6.alloc (.cells #[.int .i64 v.s, .int .i64 v.y, .int .i64 (v.n : Int)] 61)) W → Em.Mp B9 mb (hopsAt (allH ts day)) es9 clock9 W) := fun W K => (HM9.out.on L6).on ((new_below w6 (.cells #[.int .i64 v.s, .int .i64 v.y, .int .i64 (v.n : Int)] 61)).trans (K.mono (new_below w6 (.cells #[.int .i64 v.s, .int .i64 v.y, .int .i64 (v.n : Int)] 61)).size))
      clear hv1 hp hpe hpn hle hl hlm hle9 hyb HM9 HS L6 LW6 HLW
      go_wp2_with fail
      generalize w6.alloc (.cells #[.int .i64 v.s, .int .i64 v.y, .int .i64 (v.n : Int)] 61) = W7 at *
      generalize w6.heap.size = P15 at *
      have HRT : Hid (∀ W, Below W7.heap.size W7 W → Calls Try.prog 32 #[.agg #[.int .i64 fr, .int .i64 first, .int .i64 0, .int .i64 tt, .map (some mb)], .agg #[.int .i64 v.s, .int .i64 v.y, .int .i64 (v.n : Int)]] W fun e w' => ∃ a c p, e = .returned (.slice a p.length c) ∧ p.length = v.n ∧ Grd (allH ts day) tt v.y fr first p ∧ RideAt w' W.heap.size a c (ridesOf p) ∧ Below W.heap.size W w') := fun W K => ridesTo_val B9 mb (allH ts day) es9 clock9 ⟨fr, first, 0⟩ v tt W HHL.out HBB.out HNZ.out (HM7.out W K) HF.out.1 rfl (by rw [HV1.out]; exact HF.out.2) h1 h6 HV1.out HTM.out
      have K0 : Below W7.heap.size W7 W7.drew := (Below.refl _ _).drew
      have HKS : Hid (∀ W, Below W7.heap.size W7 W → W.heap[P9]? = some (.cells #[.int .i64 fr, .int .i64 first, .int .i64 0, .int .i64 tt, .map (some mb)] 65) ∧ W.heap[P15]? = some (.cells #[.int .i64 v.s, .int .i64 v.y, .int .i64 (v.n : Int)] 61)) := fun W K => ⟨kept K (lt_of s7) s7, kept K (lt_of x7) x7⟩
      have HSC : Hid (∀ W : World, (W.heap[P9]? = some (.cells #[.int .i64 fr, .int .i64 first, .int .i64 0, .int .i64 tt, .map (some mb)] 65) ∧ W.heap[P15]? = some (.cells #[.int .i64 v.s, .int .i64 v.y, .int .i64 (v.n : Int)] 61)) → W.cell? ⟨P9, 0, none⟩ = some (.int .i64 fr) ∧ W.cell? ⟨P9, 1, none⟩ = some (.int .i64 first) ∧ W.cell? ⟨P9, 2, none⟩ = some (.int .i64 0) ∧ W.cell? ⟨P9, 3, none⟩ = some (.int .i64 tt) ∧ W.cell? ⟨P9, 4, none⟩ = some (.map (some mb)) ∧ W.cell? ⟨P15, 0, none⟩ = some (.int .i64 v.s) ∧ W.cell? ⟨P15, 1, none⟩ = some (.int .i64 v.y) ∧ W.cell? ⟨P15, 2, none⟩ = some (.int .i64 (v.n : Int))) := fun W q => ⟨cell_at q.1 0, cell_at q.1 1, cell_at q.1 2, cell_at q.1 3, cell_at q.1 4, cell_at q.2 0, cell_at q.2 1, cell_at q.2 2⟩
      have HL7 : Hid (Below w.heap.size w W7) := LW7
      clear s7 x7 HM7 LW7 h1 h6 hy1
      refine wp_region_held_drew (S := (fun w' => w'.heap[P9]? = some (.cells #[.int .i64 fr, .int .i64 first, .int .i64 0, .int .i64 tt, .map (some mb)] 65) ∧ w'.heap[P15]? = some (.cells #[.int .i64 v.s, .int .i64 v.y, .int .i64 (v.n : Int)] 61))) (by kernel_rfl) ?_ (fun hHeld => ?_)
      · exact HKS.out _ K0
      refine wpAnyH_take (i := 0) (v := .agg #[.int .i64 fr, .int .i64 first, .int .i64 0, .int .i64 tt, .map (some mb)]) rfl (by kernel_rfl) (by kernel_rfl) (by kernel_rfl) (fun _ _ _ h => h) (Or.inl ⟨by kernel_rfl, fun w hSw => by first | (obtain ⟨z0, z1, z2, z3, z4, z5, z6, z7⟩ := HSC.out _ hSw; go_simp; done) | (go_simp; done) | (dsimp only at hSw; obtain ⟨hS0, hS1⟩ := hSw; go_simp; done) | rfl⟩) (by assumption) ?_
      simp only [Act.put, List.getElem_toArray, List.getElem_cons_succ, List.getElem_cons_zero, List.setIfInBounds_toArray, List.set_cons_succ, List.set_cons_zero]
      refine wpAnyH_take (i := 1) (v := .agg #[.int .i64 v.s, .int .i64 v.y, .int .i64 (v.n : Int)]) rfl (by kernel_rfl) (by kernel_rfl) (by kernel_rfl) (fun _ _ _ h => h) (Or.inl ⟨by kernel_rfl, fun w hSw => by first | (obtain ⟨z0, z1, z2, z3, z4, z5, z6, z7⟩ := HSC.out _ hSw; go_simp; done) | (go_simp; done) | (dsimp only at hSw; obtain ⟨hS0, hS1⟩ := hSw; go_simp; done) | rfl⟩) (by assumption) ?_
      simp only [Act.put, List.getElem_toArray, List.getElem_cons_succ, List.getElem_cons_zero, List.setIfInBounds_toArray, List.set_cons_succ, List.set_cons_zero]
      refine wpAnyH_take (i := 3) (v := .pointer (some ⟨P15, 1, none⟩)) rfl (by kernel_rfl) (by kernel_rfl) (by kernel_rfl) (fun _ _ _ h => h) (Or.inl ⟨by kernel_rfl, fun w hSw => by first | (go_simp; done) | (dsimp only at hSw; obtain ⟨hS0, hS1⟩ := hSw; go_simp; done) | rfl⟩) (by assumption) ?_
      simp only [Act.put, List.getElem_toArray, List.getElem_cons_succ, List.getElem_cons_zero, List.setIfInBounds_toArray, List.set_cons_succ, List.set_cons_zero]
      refine wpAnyH_take (i := 4) (v := .int .i64 v.y) rfl (by kernel_rfl) (by kernel_rfl) (by kernel_rfl) (fun _ _ _ h => h) (Or.inl ⟨by kernel_rfl, fun w hSw => by first | (obtain ⟨z0, z1, z2, z3, z4, z5, z6, z7⟩ := HSC.out _ hSw; go_simp; done) | (go_simp; done) | (dsimp only at hSw; obtain ⟨hS0, hS1⟩ := hSw; go_simp; done) | rfl⟩) (by assumption) ?_
      simp only [Act.put, List.getElem_toArray, List.getElem_cons_succ, List.getElem_cons_zero, List.setIfInBounds_toArray, List.set_cons_succ, List.set_cons_zero]
      refine wpAnyH_take (i := 5) (v := .int .i64 (v.y - 3)) rfl (by kernel_rfl) (by kernel_rfl) (by kernel_rfl) (fun _ _ _ h => h) (Or.inl ⟨by kernel_rfl, fun w hSw => by first | (go_simp; done) | (dsimp only at hSw; obtain ⟨hS0, hS1⟩ := hSw; go_simp; done) | rfl⟩) (by assumption) ?_
      simp only [Act.put, List.getElem_toArray, List.getElem_cons_succ, List.getElem_cons_zero, List.setIfInBounds_toArray, List.set_cons_succ, List.set_cons_zero]
      refine wpAnyH_ready (rs := [2]) (by kernel_rfl) (by simp) ?_
      refine AllReadyH.cons rfl (fun K hK => ?_) AllReadyH.nil
      go_simp
      go_wp2_with (go_at_call 32; (with_reducible refine (HRT.out _ K0).mono ?_); rintro e w8 ⟨ra, rc, p, rfl, hpl, HG, HR, L8⟩; have K8 : Below W7.heap.size W7 w8 := K0.trans (L8.mono K0.size))
      refine hK.out _ _ ?_ (fun hHeld2 => ?_)
      · first | with_reducible exact hHeld | exact HKS.out _ K8
      clear hK K hHeld
      have hHeld := hHeld2
      clear hHeld2
      refine wpAnyH_ready (rs := [6]) (by kernel_rfl) (by simp) ?_
      refine AllReadyH.cons rfl (fun K hK => ?_) AllReadyH.nil
      go_simp
      refine hK.out _ _ ?_ (fun hHeld2 => ?_)
      · first | with_reducible exact hHeld | exact HKS.out _ K8
      clear hK K hHeld
      have hHeld := hHeld2
      clear hHeld2
      refine wpAnyH_ready (rs := [7]) (by kernel_rfl) (by simp) ?_
      refine AllReadyH.cons rfl (fun K hK => ?_) AllReadyH.nil
      go_simp
      refine hK.out _ _ ?_ (fun hHeld2 => ?_)
      · first | with_reducible exact hHeld | exact HKS.out _ K8
      clear hK K hHeld
      have hHeld := hHeld2
      clear hHeld2
      refine wpAnyH_ready (rs := [8]) (by kernel_rfl) (by simp) ?_
      refine AllReadyH.cons rfl (fun K hK => ?_) AllReadyH.nil
      go_simp
      refine hK.out _ _ ?_ (fun hHeld2 => ?_)
      · first | with_reducible exact hHeld | exact HKS.out _ K8
      clear hK K hHeld
      have hHeld := hHeld2
      clear hHeld2
      refine wpAnyH_done (by kernel_rfl) ?_ _
      have HBE : Hid (isBest (allH ts day) fr first tt p ∧ endY first p = v.y) := grd_best HONE.out HLE.out HN6.out.1 HN6.out.2 hpl HG
      have HTN : Hid (Told ts fr tt day mi (ridesOf p) (v.y - 3) true) := Or.inl ⟨rfl, HEE.out, p, by rw [HFI.out]; exact HBE.out.1, by rw [HFI.out, HBE.out.2]; omega, rfl⟩
      have HFN : Hid ((ridesOf p).length ≤ 6 ∧ RideAt w8 w.heap.size ra rc (ridesOf p) ∧ Below w.heap.size w w8) := ⟨by rw [rides_len, hpl]; exact HN6.out.2, HR.lower (HL7.out.trans (K0.mono HL7.out.size)).size, HL7.out.trans (K8.mono HL7.out.size)⟩
      have hlen : (ridesOf p).length = p.length := rides_len p
      clear HKS HSC HRT hHeld K0 K8 L8 HR HG
      go_wp2
      refine bodyPost_ret (results_tmp3 rfl _ _ _) rfl ?_
      exact ⟨ra, rc, ridesOf p, v.y - 3, true, by rw [hlen, hpl] <;> rfl, HTN.out, HFN.out⟩
    · have HTN : Hid (Told ts fr tt day mi [] 0 false) := Or.inr ⟨rfl, rfl, rfl, fun _ => by rw [HFI.out]; exact hno⟩
      clear hno
      go_wp2
      refine bodyPost_ret (results_tmp3 rfl _ _ _) rfl ?_
      exact ⟨_, 0, [], 0, false, rfl, HTN.out, by simp, RideAt.zero _ _, LW6.trans ((new_below w6 _).mono LW6.size)⟩

end Rd
end Go.Proofs.Ytfoccmhmgdengaa

/- The contract of the model's l06Less: rides are compared one by one. -/
namespace Go.Proofs.Ytfoccmhmgdengaa
namespace Rd
open Go.ChangeShapes Go.WideShapes Go.ChangeAt Go.RowKit
open Pk (new_below join_below cell_at heap_new frozen_at lt_of kept heap_old)
set_option linter.unusedSimpArgs false
set_option linter.unusedVariables false

/-- The numbers of a ride. -/
def nth4 (r : Ri) (j : Nat) : Int := if j = 0 then r.tr else if j = 1 then r.dy else if j = 2 then r.fr else r.to

theorem flat_cons (r : Ri) (P : List Ri) : flat (r :: P) = r.tr :: r.dy :: r.fr :: r.to :: flat P := by simp [flat]

theorem lexlt_at (x y : Int) (a b : List Int) : lexlt (x :: a) (y :: b) = if x = y then lexlt a b else decide (x < y) := by
  by_cases h : x = y
  · subst h; simp [lexlt]
  · rw [if_neg h]
    unfold lexlt
    simp [h]

theorem cmp_ne (r s : Ri) (P Q : List Ri) (j : Nat) (hj : j < 4) (h : ∀ i, i < j → nth4 r i = nth4 s i) (hne : ¬ nth4 r j = nth4 s j) : lexlt (flat (r :: P)) (flat (s :: Q)) = decide (nth4 r j < nth4 s j) := by
  rw [flat_cons, flat_cons, lexlt_at, lexlt_at, lexlt_at, lexlt_at]
  have e0 : 0 < j → r.tr = s.tr := fun h0 => h 0 h0
  have e1 : 1 < j → r.dy = s.dy := fun h0 => h 1 h0
  have e2 : 2 < j → r.fr = s.fr := fun h0 => h 2 h0
  match j, hj, hne with
  | 0, _, hne => rw [if_neg (show ¬ r.tr = s.tr from hne)]; rfl
  | 1, _, hne => rw [if_pos (e0 (by omega)), if_neg (show ¬ r.dy = s.dy from hne)]; rfl
  | 2, _, hne => rw [if_pos (e0 (by omega)), if_pos (e1 (by omega)), if_neg (show ¬ r.fr = s.fr from hne)]; rfl
  | 3, _, hne => rw [if_pos (e0 (by omega)), if_pos (e1 (by omega)), if_pos (e2 (by omega)), if_neg (show ¬ r.to = s.to from hne)]; rfl

theorem cmp_eq (r s : Ri) (P Q : List Ri) (h : ∀ i, i < 4 → nth4 r i = nth4 s i) : lexlt (flat (r :: P)) (flat (s :: Q)) = lexlt (flat P) (flat Q) := by
  rw [flat_cons, flat_cons, lexlt_at, lexlt_at, lexlt_at, lexlt_at]
  have e0 : r.tr = s.tr := h 0 (by omega)
  have e1 : r.dy = s.dy := h 1 (by omega)
  have e2 : r.fr = s.fr := h 2 (by omega)
  have e3 : r.to = s.to := h 3 (by omega)
  rw [if_pos e0, if_pos e1, if_pos e2, if_pos e3]

theorem less_end (p q : List Ri) (k : Nat) (h : ¬ k < p.length ∨ ¬ k < q.length) : lexlt (flat (p.drop k)) (flat (q.drop k)) = false := by
  rcases h with h | h
  · rw [List.drop_eq_nil_of_le (by omega)]
    simp [flat, lexlt]
  · rw [show q.drop k = [] from List.drop_eq_nil_of_le (by omega)]
    cases p.drop k with
    | nil => simp [flat, lexlt]
    | cons x l => rw [flat_cons]; simp [flat, lexlt]

theorem four_at {w : World} {g : Nat} {r : Ri} {ty : TypeId} {f : Nat × Nat} (h : w.heap[g]? = some (.cells #[.int .i64 r.tr, .int .i64 r.dy, .int .i64 r.fr, .int .i64 r.to] ty f)) (j : Nat) (hj : j < 4) : w.cell? ⟨g, j, none⟩ = some (.int .i64 (nth4 r j)) := by
  rw [cell_at h j]
  match j, hj with
  | 0, _ => rfl
  | 1, _ => rfl
  | 2, _ => rfl
  | 3, _ => rfl

set_option maxHeartbeats 8000000 in
set_option maxRecDepth 100000 in
theorem specLess_val (a b : Option Addr) (p q : List Ri) (ca cb : Nat) (w : World) (hp : p.length ≤ 1000) (hq : q.length ≤ 1000) (I : Rides w a p) (J : Rides w b q) :
    Calls Try.prog 75 #[.slice a p.length ca, .slice b q.length cb] w fun e w' => e = .returned (.bool (less p q)) ∧ Below w.heap.size w w' := by
  have H0 : Hid (less p q = lexlt (flat (p.drop 0)) (flat (q.drop 0))) := rfl
  generalize less p q = R at *
  go_enter Try.func75, Try.ntmps75
  go_wp2
  go_loopw [5] (fun i wr => ∃ k : Nat, k ≤ p.length ∧ k ≤ q.length ∧ i = .int .i64 k ∧ Below w.heap.size w wr ∧ Hid (R = lexlt (flat (p.drop k)) (flat (q.drop k)))) (fun i _ => p.length - (intOf i).toNat)
  case atStart => exact ⟨0, by omega, by omega, rfl, Below.refl _ _, H0⟩
  case round =>
    obtain ⟨k, hk, hk2, rfl, L, H⟩ := hrel
    by_cases hkp : k < p.length
    · by_cases hkq : k < q.length
      · obtain ⟨b1, o1, rfl, hb1, c0, c1, c2, c3⟩ := (I.on L).at k hkp
        obtain ⟨b2, o2, rfl, hb2, d0, d1, d2, d3⟩ := (J.on L).at k hkq
        have HC : Hid (R = lexlt (flat (p[k] :: p.drop (k + 1))) (flat (q[k] :: q.drop (k + 1)))) := by
          show _ = _
          rw [H.out, List.drop_eq_getElem_cons hkp, List.drop_eq_getElem_cons hkq]
        clear H H0
        generalize p[k] = r at *
        generalize q[k] = s at *
        have hd1 : decide ((k : Int) < (p.length : Int)) = true := decide_eq_true (by omega)
        have hd2 : decide ((k : Int) < (q.length : Int)) = true := decide_eq_true (by omega)
        go_wp2
        go_cut [6] from 9 to 84 (fun x wc => x = .slice (some ⟨wr.heap.size, 0, none⟩) 4 4 ∧ wc = (wr.alloc (.cells #[.int .i64 r.tr, .int .i64 r.dy, .int .i64 r.fr, .int .i64 r.to] 3)).drew)
        case first =>
          go_region
          go_wp2
          go_meet
          case rel => exact ⟨rfl, rfl⟩
        case rest =>
        obtain ⟨rfl, rfl⟩ := hcut
        have N1 := new_below wr (.cells #[.int .i64 r.tr, .int .i64 r.dy, .int .i64 r.fr, .int .i64 r.to] 3)
        have n1 := heap_new wr (.cells #[.int .i64 r.tr, .int .i64 r.dy, .int .i64 r.fr, .int .i64 r.to] 3)
        have M1 : Below wr.heap.size wr ((wr.alloc (.cells #[.int .i64 r.tr, .int .i64 r.dy, .int .i64 r.fr, .int .i64 r.to] 3)).drew) := N1.drew
        have m1 : ((wr.alloc (.cells #[.int .i64 r.tr, .int .i64 r.dy, .int .i64 r.fr, .int .i64 r.to] 3)).drew).heap[wr.heap.size]? = some (.cells #[.int .i64 r.tr, .int .i64 r.dy, .int .i64 r.fr, .int .i64 r.to] 3) := n1
        have f0 := M1.cell (p := ⟨b2, o2 + k * 4, none⟩) hb2
        have f1 := M1.cell (p := ⟨b2, o2 + k * 4 + 1, none⟩) hb2
        have f2 := M1.cell (p := ⟨b2, o2 + k * 4 + 2, none⟩) hb2
        have f3 := M1.cell (p := ⟨b2, o2 + k * 4 + 3, none⟩) hb2
        rw [d0] at f0
        rw [d1] at f1
        rw [d2] at f2
        rw [d3] at f3
        clear c0 c1 c2 c3 d0 d1 d2 d3 N1 n1
        have L1 := join_below L M1
        generalize (wr.alloc (.cells #[.int .i64 r.tr, .int .i64 r.dy, .int .i64 r.fr, .int .i64 r.to] 3)).drew = W1 at *
        have hb1 : wr.heap.size < W1.heap.size := lt_of m1
        go_wp2
        go_cut [7] from 9 to 84 (fun y wc => y = .slice (some ⟨W1.heap.size, 0, none⟩) 4 4 ∧ wc = (W1.alloc (.cells #[.int .i64 s.tr, .int .i64 s.dy, .int .i64 s.fr, .int .i64 s.to] 3)).drew)
        case first =>
          go_region
          go_wp2
          go_meet
          case rel => exact ⟨rfl, rfl⟩
        case rest =>
        obtain ⟨rfl, rfl⟩ := hcut
        have N2 : Below W1.heap.size W1 ((W1.alloc (.cells #[.int .i64 s.tr, .int .i64 s.dy, .int .i64 s.fr, .int .i64 s.to] 3)).drew) := (new_below W1 (.cells #[.int .i64 s.tr, .int .i64 s.dy, .int .i64 s.fr, .int .i64 s.to] 3)).drew
        have m2 : ((W1.alloc (.cells #[.int .i64 s.tr, .int .i64 s.dy, .int .i64 s.fr, .int .i64 s.to] 3)).drew).heap[W1.heap.size]? = some (.cells #[.int .i64 s.tr, .int .i64 s.dy, .int .i64 s.fr, .int .i64 s.to] 3) := heap_new W1 _
        have m1' := kept N2 (lt_of m1) m1
        have L2 := join_below L1 N2
        clear f0 f1 f2 f3 m1 M1 L1 N2
        generalize (W1.alloc (.cells #[.int .i64 s.tr, .int .i64 s.dy, .int .i64 s.fr, .int .i64 s.to] 3)).drew = W2 at *
        generalize wr.heap.size = g1 at *
        generalize W1.heap.size = g2 at *
        have hg1 : g1 < W2.heap.size := lt_of m1'
        have hg2 : g2 < W2.heap.size := lt_of m2
        have HX : Hid (∀ j, j < 4 → ∀ W, Below W2.heap.size W2 W → W.cell? ⟨g1, j, none⟩ = some (.int .i64 (nth4 r j))) := fun j hj W K => by rw [K.cell (p := ⟨g1, j, none⟩) hg1]; exact four_at m1' j hj
        have HY : Hid (∀ j, j < 4 → ∀ W, Below W2.heap.size W2 W → W.cell? ⟨g2, j, none⟩ = some (.int .i64 (nth4 s j))) := fun j hj W K => by rw [K.cell (p := ⟨g2, j, none⟩) hg2]; exact four_at m2 j hj
        clear m1' m2 hb1 hb2 hg1 hg2
        go_wp2
        go_loopw [8] (fun i wz => ∃ j : Nat, j ≤ 4 ∧ i = .int .i64 j ∧ Below W2.heap.size W2 wz ∧ Hid (∀ i, i < j → nth4 r i = nth4 s i)) (fun i _ => 4 - (intOf i).toNat)
        case atStart => exact ⟨0, by omega, rfl, Below.refl _ _, fun i hi => by omega⟩
        case round =>
          obtain ⟨j, hj, rfl, K, HE⟩ := hrel
          by_cases hj4 : j < 4
          · have x0 := HX.out j hj4 _ K
            have y0 := HY.out j hj4 _ K
            have ht : decide ((j : Int) < 4) = true := decide_eq_true (by omega)
            have HJ : Hid (j < 4) := hj4
            clear hj
            by_cases e : nth4 r j = nth4 s j
            · have HE2 : Hid (∀ i, i < j + 1 → nth4 r i = nth4 s i) := fun i hi => by
                by_cases h9 : i < j
                · exact HE.out i h9
                · obtain rfl : i = j := by omega
                  exact e
              rw [e] at x0
              generalize nth4 s j = v at *
              clear e
              go_wp2
              go_quiet (fail)
              go_wp2
              go_roundw
              case rel => exact ⟨j + 1, HJ.out, by go_num, K.trans (Pk.Drawn.below _ ⟨_, rfl⟩), HE2⟩
              case measure => have := HJ.out; simp [intOf]; omega
            · have hE : Hid (R = decide (nth4 r j < nth4 s j)) := by show _ = _; rw [HC.out]; exact cmp_ne r s _ _ j HJ.out HE.out e
              have hne : (nth4 r j == nth4 s j) = false := beq_eq_false_iff_ne.2 e
              generalize nth4 r j = v1 at *
              generalize nth4 s j = v2 at *
              clear HC
              go_wp2
              go_quiet (fail)
              go_wp2
              go_quiet (fail)
              go_wp2
              go_ret
              exact ⟨by rw [hE.out] <;> rfl, L2.trans (((K.trans (Pk.Drawn.below _ ⟨_, rfl⟩)).trans (Pk.Drawn.below _ ⟨_, rfl⟩)).mono L2.size)⟩
          · obtain rfl : j = 4 := by omega
            have hE : Hid (R = lexlt (flat (p.drop (k + 1))) (flat (q.drop (k + 1)))) := by show _ = _; rw [HC.out]; exact cmp_eq r s _ _ HE.out
            clear HC HE HX HY hj hj4
            go_wp2
            go_roundw
            case rel => exact ⟨k + 1, by omega, by omega, by go_num, L2.trans (K.mono L2.size), hE⟩
            case measure => simp [intOf]; omega
      · have hE : Hid (R = false) := by show _ = _; rw [H.out]; exact less_end p q k (Or.inr hkq)
        have hd1 : decide ((k : Int) < (p.length : Int)) = true := decide_eq_true (by omega)
        have hd2 : decide ((k : Int) < (q.length : Int)) = false := decide_eq_false (by omega)
        go_wp2
        go_ret
        exact ⟨by rw [hE.out] <;> rfl, L⟩
    · have hE : Hid (R = false) := by show _ = _; rw [H.out]; exact less_end p q k (Or.inl hkp)
      have hd1 : decide ((k : Int) < (p.length : Int)) = false := decide_eq_false (by omega)
      go_wp2
      go_ret
      exact ⟨by rw [hE.out] <;> rfl, L⟩

end Rd
end Go.Proofs.Ytfoccmhmgdengaa

/- The contract of the model's l06Keep: a way put into a list by its station and hour. -/
namespace Go.Proofs.Ytfoccmhmgdengaa
namespace Rd
open Go.ChangeShapes Go.WideShapes Go.ChangeAt Go.RowKit
open Pk (new_below join_below cell_at heap_new frozen_at lt_of kept heap_old info_of own_form)
set_option linter.unusedSimpArgs false
set_option linter.unusedVariables false

set_option maxHeartbeats 8000000 in
set_option maxRecDepth 100000 in
theorem specKeep_val (ps : List Pw) (q : Pw) (base : Nat) (v : Value) (w : World) (hn : ps.length ≤ 1000000) (hl : ∀ p ∈ ps, p.o.p.length ≤ 1000) (hq : q.o.p.length ≤ 1000) (hb : base ≤ w.heap.size) (O : Lw w base v ps) (Q : RideAt w base q.a q.cap (ridesOf q.o.p)) :
    Calls Try.prog 58 #[v, q.v] w fun e w' => ∃ v', e = .returned v' ∧ Lw w' base v' (keepP ps q) ∧ w.grownBy w' v.ownBlock ∧ (v'.ownBlock = v.ownBlock ∨ ∃ g, v'.ownBlock = some g ∧ w.heap.size ≤ g) := by
  obtain ⟨a, c, rfl, ha⟩ := own_form O.own
  obtain ⟨qa, qc, qp, qs, qz⟩ := q
  have n0 := heap_new w (.cells #[.slice qa qp.length qc, .int .i64 qs, .int .i64 qz] 70)
  have N := new_below w (.cells #[.slice qa qp.length qc, .int .i64 qs, .int .i64 qz] 70)
  have hlt0 := lt_of n0
  obtain ⟨KP, hKP⟩ : ∃ KP, keepP ps ⟨qa, qc, qp, qs, qz⟩ = KP := ⟨_, rfl⟩
  rw [hKP]
  have HKP : Hid (keepP ps ⟨qa, qc, qp, qs, qz⟩ = KP) := hKP
  clear hKP
  go_enter Try.func58, Try.ntmps58
  go_wp2
  generalize w.alloc (.cells #[.slice qa qp.length qc, .int .i64 qs, .int .i64 qz] 70) = W at *
  go_loopw [5] (fun i wr => ∃ k : Nat, k ≤ ps.length ∧ i = .int .i64 k ∧ Below W.heap.size W wr ∧ Hid (∀ i (hi : i < ps.length), i < k → ¬ (ps[i].o.s = qs ∧ ps[i].o.z = qz))) (fun i _ => ps.length - (intOf i).toNat)
  case atStart => exact ⟨0, by omega, rfl, Below.refl _ _, fun i hi h => by omega⟩
  case round =>
    obtain ⟨k, hk, rfl, L, H⟩ := hrel
    have L1 := N.trans (L.mono N.size)
    have OR := O.on L1
    have QR := Q.on L1
    have m0 := kept L hlt0 n0
    have c0 : wr.cell? ⟨w.heap.size, 0, none⟩ = some (.slice qa qp.length qc) := cell_at m0 0
    have c1 : wr.cell? ⟨w.heap.size, 1, none⟩ = some (.int .i64 qs) := cell_at m0 1
    have c2 : wr.cell? ⟨w.heap.size, 2, none⟩ = some (.int .i64 qz) := cell_at m0 2
    by_cases hkn : k < ps.length
    · obtain ⟨g, c', hv, hg, hbg, ⟨d0, f0⟩, ⟨d1, f1⟩, ⟨d2, f2⟩⟩ := OR.at k hkn
      simp only [Value.slice.injEq] at hv
      obtain ⟨rfl, -, rfl⟩ := hv
      have ht : decide ((k : Int) < (ps.length : Int)) = true := decide_eq_true (by omega)
      by_cases es : ps[k].o.s = qs
      · by_cases ez : ps[k].o.z = qz
        · have HH := keepP_hit (w := ⟨qa, qc, qp, qs, qz⟩) hkn H.out ⟨es, ez⟩
          rw [es] at d1
          rw [ez] at d2
          have hkl := hl ps[k] (List.getElem_mem hkn)
          have hrk := OR.rds ps[k] (List.getElem_mem hkn)
          have HLS : Hid (∀ W, Below wr.heap.size wr W → Calls Try.prog 75 #[.slice qa qp.length qc, .slice ps[k].a ps[k].o.p.length ps[k].cap] W fun e w' => e = .returned (.bool (less (ridesOf qp) (ridesOf ps[k].o.p))) ∧ Below W.heap.size W w') := fun W K => by
            have := specLess_val qa ps[k].a (ridesOf qp) (ridesOf ps[k].o.p) qc ps[k].cap W (by rw [ridesOf_length]; exact hq) (by rw [ridesOf_length]; exact hkl) (QR.on K).rides (hrk.on K).rides
            rwa [ridesOf_length, ridesOf_length] at this
          change wr.cell? ⟨g, k * 3, none⟩ = some (.slice ps[k].a ps[k].o.p.length ps[k].cap) at d0
          clear hkl hrk
          generalize ps[k].a = pa at *
          generalize ps[k].o.p.length = pl at *
          generalize ps[k].cap = pc at *
          generalize hLB : less (ridesOf qp) (ridesOf ps[k].o.p) = B at *
          clear hLB
          have HQ : Hid (keepP ps ⟨qa, qc, qp, qs, qz⟩ = if B = true then ps.set k ⟨qa, qc, qp, qs, qz⟩ else ps) := HH
          clear HH
          go_wp2
          go_quiet (fail)
          go_wp2
          go_region_with (go_at_call 75; (with_reducible refine (HLS.out _ ?_).mono ?_); (first | exact Pk.Drawn.below _ ⟨_, rfl⟩ | exact (Pk.Drawn.below _ ⟨_, rfl⟩).drew); rintro e w3 ⟨rfl, L3⟩)
          all_goals
            have L4 : Below wr.heap.size wr w3 := ((Pk.Drawn.below _ ⟨_, rfl⟩ : Below wr.heap.size wr (wr.drewN (nq + 1)))).trans L3
            have L5 := L1.trans (L4.mono L1.size)
            have O3 := OR.on L4
            have Q3 := QR.on L4
            have m3 := kept L4 (lt_of m0) m0
            have e0 : w3.cell? ⟨w.heap.size, 0, none⟩ = some (.slice qa qp.length qc) := cell_at m3 0
            have e1 : w3.cell? ⟨w.heap.size, 1, none⟩ = some (.int .i64 qs) := cell_at m3 1
            have e2 : w3.cell? ⟨w.heap.size, 2, none⟩ = some (.int .i64 qz) := cell_at m3 2
            obtain ⟨g', c', hv, -, -, ⟨x0, y0⟩, ⟨x1, y1⟩, ⟨x2, y2⟩⟩ := O3.at k hkn
            simp only [Value.slice.injEq, Option.some.injEq, Addr.mk.injEq, and_true] at hv
            obtain ⟨rfl, -, rfl⟩ := hv
            cases B
            · have HK : Hid (KP = ps) := by show _ = _; rw [← HKP.out, HQ.out]; rfl
              clear HLS d0 d1 d2 c0 c1 c2 f0 f1 f2
              go_wp2
              go_ret
              exact ⟨_, rfl, by rw [HK.out]; exact O3, grown_below L5 _, Or.inl rfl⟩
            · have HK : Hid (KP = ps.set k ⟨qa, qc, qp, qs, qz⟩) := by show _ = _; rw [← HKP.out, HQ.out]; rfl
              clear HLS d0 d1 d2 c0 c1 c2 f0 f1 f2
              have G1 := grown_set (w := w3) (g := g) (i := k * 3) (.slice qa qp.length qc)
              have G2 := grown_set (w := w3.setCell ⟨g, k * 3, none⟩ (.slice qa qp.length qc)) (g := g) (i := k * 3 + 1) (.int .i64 qs)
              have G3 := grown_set (w := (w3.setCell ⟨g, k * 3, none⟩ (.slice qa qp.length qc)).setCell ⟨g, k * 3 + 1, none⟩ (.int .i64 qs)) (g := g) (i := k * 3 + 2) (.int .i64 qz)
              have GA := grown_trans (grown_trans G1 G2 (Or.inl rfl)) G3 (Or.inl rfl)
              have OA := own_setn (i := k * 3 + 2) (own_setn (i := k * 3 + 1) (own_setn (i := k * 3) O3.own (.slice qa qp.length qc)) (.int .i64 qs)) (.int .i64 qz)
              have e9 := wc_set ps k ⟨qa, qc, qp, qs, qz⟩ hkn
              rw [← e9] at OA
              have LA : Lw (((w3.setCell ⟨g, k * 3, none⟩ (.slice qa qp.length qc)).setCell ⟨g, k * 3 + 1, none⟩ (.int .i64 qs)).setCell ⟨g, k * 3 + 2, none⟩ (.int .i64 qz)) base (.slice (some ⟨g, 0, none⟩) ps.length c) (ps.set k ⟨qa, qc, qp, qs, qz⟩) := by
                refine ⟨by rw [List.length_set]; exact OA, fun p hp => ?_⟩
                rcases List.mem_or_eq_of_mem_set hp with hp | rfl
                · exact (O3.rds p hp).grown (v := .slice (some ⟨g, 0, none⟩) ps.length c) GA O3.own
                · exact RideAt.grown (v := .slice (some ⟨g, 0, none⟩) ps.length c) Q3 GA O3.own
              have HLA : Hid (Lw (((w3.setCell ⟨g, k * 3, none⟩ (.slice qa qp.length qc)).setCell ⟨g, k * 3 + 1, none⟩ (.int .i64 qs)).setCell ⟨g, k * 3 + 2, none⟩ (.int .i64 qz)) base (.slice (some ⟨g, 0, none⟩) ps.length c) (ps.set k ⟨qa, qc, qp, qs, qz⟩)) := LA
              have HGA : Hid (World.grownBy w (((w3.setCell ⟨g, k * 3, none⟩ (.slice qa qp.length qc)).setCell ⟨g, k * 3 + 1, none⟩ (.int .i64 qs)).setCell ⟨g, k * 3 + 2, none⟩ (.int .i64 qz)) (some g)) := grown_trans (grown_below L5 (some g)) GA (Or.inl rfl)
              clear GA OA LA G1 G2 G3 e9
              go_wp2
              go_ret
              exact ⟨_, rfl, by rw [HK.out]; exact HLA.out, HGA.out, Or.inl rfl⟩
        · have hne : (ps[k].o.z == qz) = false := beq_eq_false_iff_ne.2 ez
          have HN : Hid (∀ i (hi : i < ps.length), i < k + 1 → ¬ (ps[i].o.s = qs ∧ ps[i].o.z = qz)) := fun i hi hik => by
            by_cases h9 : i < k
            · exact H.out i hi h9
            · obtain rfl : i = k := by omega
              exact fun h => ez h.2
          rw [es] at d1
          generalize ps[k].o.z = z9 at *
          go_wp2
          go_quiet (fail)
          go_wp2
          go_roundw
          case rel => exact ⟨k + 1, by omega, by go_num, L.trans (Pk.Drawn.below _ ⟨_, rfl⟩), HN⟩
          case measure => simp [intOf]; omega
      · have hne : (ps[k].o.s == qs) = false := beq_eq_false_iff_ne.2 es
        have HN : Hid (∀ i (hi : i < ps.length), i < k + 1 → ¬ (ps[i].o.s = qs ∧ ps[i].o.z = qz)) := fun i hi hik => by
          by_cases h9 : i < k
          · exact H.out i hi h9
          · obtain rfl : i = k := by omega
            exact fun h => es h.1
        generalize ps[k].o.s = s9 at *
        go_wp2
        go_quiet (fail)
        go_wp2
        go_roundw
        case rel => exact ⟨k + 1, by omega, by go_num, L.trans (Pk.Drawn.below _ ⟨_, rfl⟩), HN⟩
        case measure => simp [intOf]; omega
    · obtain rfl : k = ps.length := by omega
      have HH := keepP_new (w := ⟨qa, qc, qp, qs, qz⟩) (fun i hi => H.out i hi hi)
      have ht : decide ((ps.length : Int) < (ps.length : Int)) = false := decide_eq_false (by omega)
      have HK : Hid (KP = ps ++ [⟨qa, qc, qp, qs, qz⟩]) := by show _ = _; rw [← HKP.out]; exact HH
      obtain ⟨i0, hi0, hz0, hz1, hz2⟩ := info_of info_way
      have x0 := heap_new wr (.cells #[.slice qa qp.length qc, .int .i64 qs, .int .i64 qz] 70)
      have NX := new_below wr (.cells #[.slice qa qp.length qc, .int .i64 qs, .int .i64 qz] 70)
      have OX := OR.on NX
      have QX := QR.on NX
      have LX := L1.trans (NX.mono L1.size)
      have hbs : base ≤ (wr.alloc (.cells #[.slice qa qp.length qc, .int .i64 qs, .int .i64 qz] 70)).heap.size := Nat.le_trans hb LX.size
      have HXN : ∀ j u, [Value.slice qa qp.length qc, .int .i64 qs, .int .i64 qz][j]? = some u → (wr.alloc (.cells #[.slice qa qp.length qc, .int .i64 qs, .int .i64 qz] 70)).cell? (Addr.add ⟨wr.heap.size, 0, none⟩ j) = some u := fun j u hu => by
        rw [add_plain, Nat.zero_add, cell_at x0 j]
        simpa using hu
      clear HH H
      go_wp2_with (at_builtin; refine wpList_append_own_at _ rfl _ _ 71 rfl base 70 i0 (.agg #[.slice none 0 0, .int .i64 0, .int .i64 0]) 3 40 Try.underlying71 hi0 hz0 hz1 hz2 rfl (by decide) _ _ _ rfl OX.own ⟨wr.heap.size, 0, none⟩ 1 1 [.slice qa qp.length qc, .int .i64 qs, .int .i64 qz] rfl ?c0 ?c1 ?c2 ?c3 ?c4 ?c5 ?_)
      case c0 => rfl
      case c1 => exact HXN
      case c2 => intro u hu; simp at hu; rcases hu with rfl | rfl | rfl <;> rfl
      case c3 => unfold maxLen; omega
      case c4 => omega
      case c5 => exact hbs
      intro v' y O6 G6 _ h6
      have HLA : Hid (Lw y base v' (ps ++ [⟨qa, qc, qp, qs, qz⟩])) := by
        refine ⟨by rw [List.length_append, wc_append]; exact O6, fun p hp => ?_⟩
        rcases List.mem_append.1 hp with hp | hp
        · exact (OX.rds p hp).grown G6 OX.own
        · obtain rfl := List.mem_singleton.1 hp
          exact RideAt.grown QX G6 OX.own
      have HGA := grown_trans (grown_below LX (Value.slice a ps.length c).ownBlock) G6 (Or.inl rfl)
      have h7 : v'.ownBlock = (Value.slice a ps.length c).ownBlock ∨ ∃ g, v'.ownBlock = some g ∧ w.heap.size ≤ g := by
        rcases h6 with h6 | h6
        · exact Or.inl h6
        · exact Or.inr ⟨_, h6, by have := L1.size; omega⟩
      clear O6 G6 h6
      go_wp2
      go_ret
      exact ⟨_, rfl, by rw [HK.out]; exact HLA.out, HGA, h7⟩

end Rd
end Go.Proofs.Ytfoccmhmgdengaa
