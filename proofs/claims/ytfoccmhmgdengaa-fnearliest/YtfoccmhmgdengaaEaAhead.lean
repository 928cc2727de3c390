/- Until when one has to be ready with one ride more, of the program. -/
import Derived.Test.YtfoccmhmgdengaaEaRange
namespace Go.Proofs.Ytfoccmhmgdengaa
namespace Rd
open Go.ChangeShapes Go.WideShapes Go.ChangeAt Go.RowKit
open Pk (new_below join_below cell_at heap_new frozen_at lt_of kept heap_old info_of)
open Em (hld kk kk_of kk_lit keyLaw WfI Mi)
set_option linter.unusedSimpArgs false
set_option linter.unusedVariables false

theorem below_grown {w w1 : World} (L : Below w.heap.size w w1) (row : Option Nat) : w.grownBy w1 row := ⟨L.os, L.tape, L.output, L.size, fun i hi _ => L.block i hi⟩

/-- What is told is told of a hop; every hop that is done is told of. -/
structure Ahd (H : List Hp) (L : Int → Option Int) (done : Hp → Prop) (A : Int → Option Int) : Prop where
  told : ∀ st t, A st = some t → ∃ h ∈ H, h.r.fr = st ∧ h.d = t ∧ inT L h = true
  all : ∀ h ∈ H, inT L h = true → done h → ∃ t, A h.r.fr = some t ∧ h.d ≤ t

theorem Ahd.put {H : List Hp} {L A : Int → Option Int} {done done' : Hp → Prop} (a : Ahd H L done A) {h : Hp} (hm : h ∈ H) (h0 : 0 ≤ h.d) (hi : inT L h = true) (hd : ∀ g, done' g → done g ∨ g = h) : Ahd H L done' (Em.putL A h.r.fr (max ((A h.r.fr).getD 0) h.d)) := by
  have hx : (A h.r.fr).getD 0 ≤ max ((A h.r.fr).getD 0) h.d ∧ h.d ≤ max ((A h.r.fr).getD 0) h.d := by omega
  refine ⟨fun st t ht => ?_, fun g hg hgi hgd => ?_⟩
  · unfold Em.putL at ht
    by_cases e : st = h.r.fr
    · rw [if_pos e] at ht
      simp only [Option.some.injEq] at ht
      subst e
      cases hA : A h.r.fr with
      | none =>
        rw [hA] at ht
        refine ⟨h, hm, rfl, ?_, hi⟩
        simp only [Option.getD_none] at ht
        omega
      | some u =>
        rw [hA] at ht
        simp only [Option.getD_some] at ht
        by_cases c : u ≤ h.d
        · exact ⟨h, hm, rfl, by omega, hi⟩
        · obtain ⟨g, g1, g2, g3, g4⟩ := a.told _ _ hA
          exact ⟨g, g1, g2, by omega, g4⟩
    · rw [if_neg e] at ht
      exact a.told st t ht
  · unfold Em.putL
    by_cases e : g.r.fr = h.r.fr
    · rw [if_pos e]
      refine ⟨_, rfl, ?_⟩
      rcases hd g hgd with h1 | rfl
      · obtain ⟨t, h2, h3⟩ := a.all g hg hgi h1
        rw [e] at h2
        rw [h2] at hx ⊢
        simp only [Option.getD_some] at hx ⊢
        omega
      · exact hx.2
    · rw [if_neg e]
      rcases hd g hgd with h1 | rfl
      · exact a.all g hg hgi h1
      · exact absurd rfl e

theorem Ahd.skip {H : List Hp} {L A : Int → Option Int} {done done' : Hp → Prop} (a : Ahd H L done A) (hd : ∀ g ∈ H, inT L g = true → done' g → done g) : Ahd H L done' A := ⟨a.told, fun g hg hi h => a.all g hg hi (hd g hg hi h)⟩

set_option maxRecDepth 100000 in
set_option maxHeartbeats 2000000 in
theorem oneAhead_val (B0 mb ub nu : Nat) (H : List Hp) (es : Array MapEntry) (clock : Nat) (v0 : Vw) (tt : Int) (L : Int → Option Int) (w : World) (hH : H.length ≤ 64000) (hB : ∀ h ∈ H, WfI h.r.to ∧ WfI h.r.fr ∧ 0 ≤ h.z ∧ h.z ≤ 200000000 ∧ 0 ≤ h.d) (M : Em.Mp B0 mb (hopsAt H) es clock w) (I : Mi w ub nu L) :
    Calls Try.prog 71 #[.agg #[.int .i64 v0.s, .int .i64 v0.y, .int .i64 (v0.n : Int), .int .i64 tt, .map (some mb)], .map (some ub)] w fun e w' => ∃ b n A, e = .returned (.map (some b)) ∧ Mi w' b n A ∧ w.heap.size ≤ b ∧ Ahd H L (fun _ => True) A ∧ Below w.heap.size w w' := by
  have hsz := mp_size M
  have hmb := lt_of M.blk
  have hub := I.lt
  have hmk : ∀ w : World, (Instr.makeMap 97 none).run Try.prog w = .ok (.map (some w.heap.size)) (w.alloc (.map #[] 0)) := fun w => by simp [Instr.makeMap, go_sem]
  have e1 : (w.alloc (.cells #[.int .i64 v0.s, .int .i64 v0.y, .int .i64 (v0.n : Int), .int .i64 tt, .map (some mb)] 65)).heap.size = w.heap.size + 1 := Array.size_push ..
  have e2 : ((w.alloc (.cells #[.int .i64 v0.s, .int .i64 v0.y, .int .i64 (v0.n : Int), .int .i64 tt, .map (some mb)] 65)).alloc (.map #[] 0)).heap.size = w.heap.size + 1 + 1 := (Array.size_push ..).trans (by rw [e1])
  have N2 := join_below (new_below w (.cells #[.int .i64 v0.s, .int .i64 v0.y, .int .i64 (v0.n : Int), .int .i64 tt, .map (some mb)] 65)) (new_below _ (.map #[] 0))
  have so2 := heap_old (heap_new w (.cells #[.int .i64 v0.s, .int .i64 v0.y, .int .i64 (v0.n : Int), .int .i64 tt, .map (some mb)] 65)) (.map #[] 0)
  have M2 := Em.mi_made (w.alloc (.cells #[.int .i64 v0.s, .int .i64 v0.y, .int .i64 (v0.n : Int), .int .i64 tt, .map (some mb)] 65))
  rw [e1] at M2
  have HM : Hid (Em.Mp B0 mb (hopsAt H) es clock w) := M
  have HI : Hid (Mi w ub nu L) := I
  have HWF : Hid (∀ h ∈ H, WfI h.r.fr) := fun h hm => (hB h hm).2.1
  have HBB : Hid (∀ h ∈ H, WfI h.r.to ∧ WfI h.r.fr ∧ 0 ≤ h.z ∧ h.z ≤ 200000000 ∧ 0 ≤ h.d) := hB
  obtain ⟨D, hD, hF⟩ := mp_owns M (by unfold maxLen; omega)
  have hDs := hD.size_le
  have hD2 : ((w.alloc (.cells #[.int .i64 v0.s, .int .i64 v0.y, .int .i64 (v0.n : Int), .int .i64 tt, .map (some mb)] 65)).alloc (.map #[] 0)).ownsMap Try.prog 3 hld mb es.size D := hD.kept (below_grown N2 none) (by simp)
  have d4 : ((w.alloc (.cells #[.int .i64 v0.s, .int .i64 v0.y, .int .i64 (v0.n : Int), .int .i64 tt, .map (some mb)] 65)).alloc (.map #[] 0)).cell? ⟨w.heap.size, 4, none⟩ = some (.map (some mb)) := cell_at so2 4
  have HFH : Hid (FctH w D H) := hF
  have HIT : Hid (∀ (h : Hp) (W : World), Below w.heap.size w W → h ∈ H → Calls Try.prog 74 #[hpV h, .map (some ub)] W fun e w' => e = .returned (.bool (inT L h)) ∧ Below W.heap.size W w') := fun h W LW hm => by
    obtain ⟨b1, -, b2, b3, -⟩ := hB h hm
    exact inTime_val h ub nu L W (I.on (LW.block _ hub)) b1 b2 b3
  clear M I hB hF
  go_enter Try.func71, Try.ntmps71
  go_wp2_with (first | (at_range; refine wpList_range_own _ rfl _ 62 rfl 3 101 keyLaw Try.underlying62 hld mb es.size D rfl hD2 ?_; intro w4 hrg0 hg0 hs0) | go_in)
  rw [e2] at hrg0 hs0
  have K0 : Below (w.heap.size + 1 + 1) ((w.alloc (.cells #[.int .i64 v0.s, .int .i64 v0.y, .int .i64 (v0.n : Int), .int .i64 tt, .map (some mb)] 65)).alloc (.map #[] 0)) w4 := ⟨hg0.os, hg0.tape, hg0.output, hg0.size, fun i hi => hg0.block i (by omega) (by simp)⟩
  have L4 : Below w.heap.size w w4 := N2.trans (K0.mono (by omega))
  have so4 : w4.heap[w.heap.size]? = some (.cells #[.int .i64 v0.s, .int .i64 v0.y, .int .i64 (v0.n : Int), .int .i64 tt, .map (some mb)] 65) := (K0.block _ (by omega)).trans so2
  have M4 : Mi w4 (w.heap.size + 1) 0 (fun _ => none) := M2.on (K0.block _ (by omega))
  clear d4 N2 so2 M2 hD2 e1 hg0 K0 hs0
  go_frame
  rw [e2]
  clear e2
  have HA0 : Hid (Ahd H L (fun h => Maps.has D (kk h.r.fr) = false ∧ WfI h.r.fr) (fun _ => none)) := ⟨fun st t h => (nomatch h), fun h hm hi hd => by
    have h9 := (HFH.out h.r.fr hd.2).1 (fun e => by
      have h8 : h ∈ hopsAt H h.r.fr := hopsAt_iff.2 ⟨hm, rfl⟩
      rw [e] at h8
      cases h8)
    rw [h9] at hd
    exact absurd hd.1 (by simp)⟩
  generalize hSB : w.heap.size = SB at *
  have HRG : Hid (w4.ranges Try.prog 3 hld mb (SB + 1 + 1) es.size D (Maps.has D) (Maps.size D)) := hrg0
  clear hrg0 hD
  go_loopw [] (fun wr => ∃ (left : Lit → Bool) (cnt n : Nat) (A : Int → Option Int), Below SB w wr ∧ wr.heap[SB]? = some (.cells #[.int .i64 v0.s, .int .i64 v0.y, .int .i64 (v0.n : Int), .int .i64 tt, .map (some mb)] 65) ∧ Hid (wr.ranges Try.prog 3 hld mb (SB + 1 + 1) es.size D left cnt) ∧ Mi wr (SB + 1) n A ∧ n + 64000 * cnt ≤ 4096000000 ∧ Hid (Ahd H L (fun h => left (kk h.r.fr) = false ∧ WfI h.r.fr) A)) (fun wr => wr.rangeLeft mb (SB + 1 + 1))
  case atStart => exact ⟨_, _, 0, _, L4, so4, HRG, M4, by omega, HA0⟩
  case round =>
    clear L4 so4 HRG M4 HA0
    obtain ⟨left, cnt, n, A, Lr, sor, HR, Mr, hbd, HA⟩ := hrel
    go_wp2_with (first | (at_next; refine wpList_next_hops rfl _ rfl mb (SB + 1 + 1) es.size cnt D left H rfl HR.out HFH.out ?_ ?_) | go_in)
    · intro hl0
      have HAF : Hid (Ahd H L (fun _ => True) A) := HA.out.skip fun g hg hi _ => ⟨hl0 _, HWF.out g hg⟩
      go_wp2
      go_ret
      exact ⟨SB + 1, n, A, rfl, Mr, by omega, HAF.out, by rw [hSB]; exact Lr⟩
    · intro k ha hc w1 cnt1 hk hlk hrg1 hlt1 hg1 hs1 hen hHo
      have K1 : Below (SB + 1 + 1) wr w1 := ⟨hg1.os, hg1.tape, hg1.output, hg1.size, fun i hi => hg1.block i (by have := Mr.lt; omega) (by simp; omega)⟩
      have so1 := (K1.block SB (by omega)).trans sor
      have M1 := Mr.on (K1.block (SB + 1) (by omega))
      have L1 : Below SB w w1 := Lr.trans (K1.mono (by omega))
      have HR1 : Hid (w1.ranges Try.prog 3 hld mb (SB + 1 + 1) es.size D (fun z => left z && !z.sameKey (kk k)) cnt1) := hrg1
      have hme2 := HR.out.left_eq
      have hLk : (hopsAt H k).length ≤ 64000 := Nat.le_trans (hopsAt_len H k) hH
      have HHO : Hid (∀ W, Below SB w W → Hops W ha (hopsAt H k)) := fun W LW => hHo.on (by rw [hSB]; exact LW)
      have HAI : Hid (Ahd H L (fun h => (left (kk h.r.fr) = false ∧ WfI h.r.fr) ∨ h ∈ (hopsAt H k).take 0) A) := HA.out.skip fun g hg hi h => by
        rcases h with h | h
        · exact h
        · simp at h
      generalize hLN : (hopsAt H k).length = LN at *
      clear K1 sor Mr Lr hg1 hs1 hrg1 hHo HA HR
      go_wp2
      clear hen
      go_loopw [21] (fun iv wq => ∃ (i n2 : Nat) (A2 : Int → Option Int), iv = .int .i64 i ∧ i ≤ LN ∧ n2 ≤ n + i ∧ Below SB w wq ∧ wq.heap[SB]? = some (.cells #[.int .i64 v0.s, .int .i64 v0.y, .int .i64 (v0.n : Int), .int .i64 tt, .map (some mb)] 65) ∧ Hid (wq.ranges Try.prog 3 hld mb (SB + 1 + 1) es.size D (fun z => left z && !z.sameKey (kk k)) cnt1) ∧ Mi wq (SB + 1) n2 A2 ∧ Hid (Ahd H L (fun h => (left (kk h.r.fr) = false ∧ WfI h.r.fr) ∨ h ∈ (hopsAt H k).take i) A2)) (fun iv _ => LN - (intOf iv).toNat)
      case atStart => exact ⟨0, n, A, rfl, Nat.zero_le _, Nat.le_refl _, L1, so1, HR1, M1, HAI⟩
      case round =>
        clear L1 so1 HR1 M1 HAI
        obtain ⟨i, n2, A2, rfl, hiL, hn2, Lq, soq, HRq, Mq, HAq⟩ := hrel
        by_cases hin : i < LN
        · have hi1 : (i : Int) < (LN : Int) := by omega
          have hil : i < (hopsAt H k).length := by rw [hLN]; exact hin
          obtain ⟨gh, ea, hgh, s0, s1, s2, s3, s4, s5⟩ := HHO.out wr Lq i hil
          obtain ⟨h, hh⟩ : ∃ h, (hopsAt H k)[i] = h := ⟨_, rfl⟩
          rw [hh] at s0 s1 s2 s3 s4 s5
          have HMM : Hid (h ∈ H ∧ h.r.fr = k) := hopsAt_iff.1 (by rw [← hh]; exact List.getElem_mem hil)
          have HTK : Hid ((hopsAt H k).take (i + 1) = (hopsAt H k).take i ++ [h]) := by
            show _ = _
            rw [List.take_succ_eq_append_getElem hil, hh]
          subst ea
          have NX := new_below wr (hpO h)
          have x2 := heap_new wr (hpO h)
          have Lx : Below SB w (wr.alloc (hpO h)) := Lq.trans (NX.mono (by have := lt_of soq; omega))
          have sox := heap_old soq (hpO h)
          have Mx := Mq.on (NX.block _ Mq.lt)
          have HRx : Hid ((wr.alloc (hpO h)).ranges Try.prog 3 hld mb (SB + 1 + 1) es.size D (fun z => left z && !z.sameKey (kk k)) cnt1) := HRq.out.alloc (hpO h)
          have z0 : (wr.alloc (hpO h)).cell? ⟨wr.heap.size, 0, none⟩ = some (.int .i64 h.r.tr) := cell_at x2 0
          have z1 : (wr.alloc (hpO h)).cell? ⟨wr.heap.size, 1, none⟩ = some (.int .i64 h.r.dy) := cell_at x2 1
          have z2 : (wr.alloc (hpO h)).cell? ⟨wr.heap.size, 2, none⟩ = some (.int .i64 h.r.fr) := cell_at x2 2
          have z3 : (wr.alloc (hpO h)).cell? ⟨wr.heap.size, 3, none⟩ = some (.int .i64 h.r.to) := cell_at x2 3
          have z4 : (wr.alloc (hpO h)).cell? ⟨wr.heap.size, 4, none⟩ = some (.int .i64 h.d) := cell_at x2 4
          have z5 : (wr.alloc (hpO h)).cell? ⟨wr.heap.size, 5, none⟩ = some (.int .i64 h.z) := cell_at x2 5
          have HTI := HIT.out h (wr.alloc (hpO h)) Lx HMM.out.1
          clear NX Lq soq Mq HRq hh hil
          go_wp2_with fail
          generalize wr.alloc (hpO h) = Wx at *
          generalize wr.heap.size = HX at *
          clear s0 s1 s2 s3 s4 s5 z0 z1 z2 z3 z4 z5
          refine HTI.mono ?_
          rintro e w5 ⟨rfl, L5⟩
          have so5 := kept L5 (lt_of sox) sox
          have x5 := kept L5 (lt_of x2) x2
          have M5 := Mx.on (L5.block _ Mx.lt)
          have LL5 : Below SB w w5 := Lx.trans (L5.mono (by have := lt_of sox; omega))
          have HR5 : Hid (w5.ranges Try.prog 3 hld mb (SB + 1 + 1) es.size D (fun z => left z && !z.sameKey (kk k)) cnt1) := HRx.out.kept (below_grown L5 none) (by simp) (by simp)
          clear sox x2 Mx Lx HRx L5 HTI
          cases hI : inT L h
          · have HAN : Hid (Ahd H L (fun h => (left (kk h.r.fr) = false ∧ WfI h.r.fr) ∨ h ∈ (hopsAt H k).take (i + 1)) A2) := HAq.out.skip fun g hg hi hd => by
              rw [HTK.out, List.mem_append, List.mem_singleton] at hd
              rcases hd with h1 | h1 | h1
              · exact Or.inl h1
              · exact Or.inr h1
              · subst h1
                rw [hI] at hi
                cases hi
            clear hI x5
            go_wp2
            go_roundw
            case rel => exact ⟨i + 1, n2, A2, by go_num, by omega, by omega, LL5, so5, HR5, M5, HAN⟩
            case measure => simp [intOf]; omega
          · have z4 : w5.cell? ⟨HX, 4, none⟩ = some (.int .i64 h.d) := cell_at x5 4
            have lk := M5.look1 hk
            obtain ⟨w6, hup, M6, G6⟩ := M5.put (by unfold maxLen; omega) hk (max ((A2 k).getD 0) h.d)
            obtain ⟨x, hx⟩ : ∃ x, (A2 k).getD 0 = x := ⟨_, rfl⟩
            rw [hx] at lk hup M6
            by_cases hc : x < h.d
            · have hmx : max x h.d = h.d := by omega
              rw [hmx] at hup M6
              have so6 := (G6.block SB (lt_of so5) (by simp)).trans so5
              have LL6 : Below SB w w6 := LL5.trans ⟨G6.os, G6.tape, G6.output, G6.size, fun q hq => G6.block q (by have := lt_of so5; omega) (by simp; omega)⟩
              have HR6 : Hid (w6.ranges Try.prog 3 hld mb (SB + 1 + 1) es.size D (fun z => left z && !z.sameKey (kk k)) cnt1) := HR5.out.kept G6 (by simp; omega) (by simp)
              have HAN : Hid (Ahd H L (fun h => (left (kk h.r.fr) = false ∧ WfI h.r.fr) ∨ h ∈ (hopsAt H k).take (i + 1)) (Em.putL A2 k h.d)) := by
                have h9 := HAq.out.put (done' := fun h => (left (kk h.r.fr) = false ∧ WfI h.r.fr) ∨ h ∈ (hopsAt H k).take (i + 1)) HMM.out.1 (HBB.out h HMM.out.1).2.2.2.2 hI (fun g hg => by
                  rw [HTK.out, List.mem_append, List.mem_singleton] at hg
                  rcases hg with h1 | h1 | h1
                  · exact Or.inl (Or.inl h1)
                  · exact Or.inl (Or.inr h1)
                  · exact Or.inr h1)
                rw [HMM.out.2, hx, hmx] at h9
                exact h9
              clear hmx hI x5 so5 M5 LL5 HR5 G6 hx
              go_wp2
              go_roundw
              case rel => exact ⟨i + 1, n2 + 1, Em.putL A2 k h.d, by go_num, by omega, by omega, LL6, so6, HR6, M6, HAN⟩
              case measure => simp [intOf]; omega
            · have hmx : max x h.d = x := by omega
              rw [hmx] at hup M6
              have so6 := (G6.block SB (lt_of so5) (by simp)).trans so5
              have LL6 : Below SB w w6 := LL5.trans ⟨G6.os, G6.tape, G6.output, G6.size, fun q hq => G6.block q (by have := lt_of so5; omega) (by simp; omega)⟩
              have HR6 : Hid (w6.ranges Try.prog 3 hld mb (SB + 1 + 1) es.size D (fun z => left z && !z.sameKey (kk k)) cnt1) := HR5.out.kept G6 (by simp; omega) (by simp)
              have HAN : Hid (Ahd H L (fun h => (left (kk h.r.fr) = false ∧ WfI h.r.fr) ∨ h ∈ (hopsAt H k).take (i + 1)) (Em.putL A2 k x)) := by
                have h9 := HAq.out.put (done' := fun h => (left (kk h.r.fr) = false ∧ WfI h.r.fr) ∨ h ∈ (hopsAt H k).take (i + 1)) HMM.out.1 (HBB.out h HMM.out.1).2.2.2.2 hI (fun g hg => by
                  rw [HTK.out, List.mem_append, List.mem_singleton] at hg
                  rcases hg with h1 | h1 | h1
                  · exact Or.inl (Or.inl h1)
                  · exact Or.inl (Or.inr h1)
                  · exact Or.inr h1)
                rw [HMM.out.2, hx, hmx] at h9
                exact h9
              clear hmx hI x5 so5 M5 LL5 HR5 G6 hx
              go_wp2
              go_roundw
              case rel => exact ⟨i + 1, n2 + 1, Em.putL A2 k x, by go_num, by omega, by omega, LL6, so6, HR6, M6, HAN⟩
              case measure => simp [intOf]; omega
        · obtain rfl : i = LN := by omega
          have HAN : Hid (Ahd H L (fun h => (left (kk h.r.fr) && !(kk h.r.fr).sameKey (kk k)) = false ∧ WfI h.r.fr) A2) := HAq.out.skip fun g hg hi hd => by
            by_cases e : g.r.fr = k
            · right
              rw [← hLN, List.take_length]
              exact hopsAt_iff.2 ⟨hg, e⟩
            · left
              refine ⟨?_, hd.2⟩
              have h9 : (kk g.r.fr).sameKey (kk k) = false := by
                cases h8 : (kk g.r.fr).sameKey (kk k) with
                | false => rfl
                | true => exact absurd (WideAt.sameKey_eq h8) (Em.kk_ne e)
              have := hd.1
              rw [h9] at this
              simpa using this
          have hme1 := HRq.out.left_eq
          go_wp2
          go_roundw
          case rel => exact ⟨_, cnt1, n2, A2, Lq, soq, HRq, Mq, by omega, HAN⟩
          case measure => rw [hme1, hme2]; exact hlt1

end Rd
end Go.Proofs.Ytfoccmhmgdengaa
