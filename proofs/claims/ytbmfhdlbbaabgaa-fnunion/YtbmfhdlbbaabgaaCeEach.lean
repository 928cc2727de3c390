/- Each control once, in their order, of the program. -/
import Derived.Test.YtbmfhdlbbaabgaaCeFst
import Derived.Test.YtbmfhdlbbaabgaaCeSeq
namespace Go.Proofs.Ytbmfhdlbbaabgaa
namespace Hn
open Go.ChangeShapes Go.WideShapes Go.ChangeAt Go.RowKit Go.Joins
open Pk (new_below join_below cell_at heap_new frozen_at lt_of kept heap_old Drawn info_of Room own_form own_below)
set_option linter.unusedSimpArgs false
set_option linter.unusedVariables false

theorem ctls_grown {w w1 : World} {a : Option Addr} {l : List Ct} {row : Option Nat} (h : Controls w a l) (G : w.grownBy w1 row) (hn : ∀ b o, a = some ⟨b, o, none⟩ → some b ≠ row) : Controls w1 a l := by
  rcases h with h | ⟨b, o, ha, hb, hc⟩
  · exact Or.inl h
  · have e := G.block b hb (hn b o ha)
    refine Or.inr ⟨b, o, ha, Nat.lt_of_lt_of_le hb G.size, fun i hi => ?_⟩
    obtain ⟨c0, c1, c2, c3, c4, c5⟩ := hc i hi
    exact ⟨(World.cell?_of_block e).trans c0, (World.cell?_of_block e).trans c1, (World.cell?_of_block e).trans c2, (World.cell?_of_block e).trans c3, (World.cell?_of_block e).trans c4, (World.cell?_of_block e).trans c5⟩

theorem ctls_block {w w1 : World} {a : Option Addr} {l : List Ct} (h : Controls w a l) (hs : w.heap.size ≤ w1.heap.size) (hn : ∀ b o, a = some ⟨b, o, none⟩ → w1.heap[b]? = w.heap[b]?) : Controls w1 a l := by
  rcases h with h | ⟨b, o, ha, hb, hc⟩
  · exact Or.inl h
  · have e := hn b o ha
    refine Or.inr ⟨b, o, ha, Nat.lt_of_lt_of_le hb hs, fun i hi => ?_⟩
    obtain ⟨c0, c1, c2, c3, c4, c5⟩ := hc i hi
    exact ⟨(World.cell?_of_block e).trans c0, (World.cell?_of_block e).trans c1, (World.cell?_of_block e).trans c2, (World.cell?_of_block e).trans c3, (World.cell?_of_block e).trans c4, (World.cell?_of_block e).trans c5⟩

theorem own_addr {w : World} {base e size n m cap : Nat} {a : Option Addr} {xs : List Value} (h : w.ownsRow base e size (.slice a m cap) n xs) : ∀ b o, a = some ⟨b, o, none⟩ → base ≤ b ∧ b < w.heap.size := by
  intro b o ha
  subst ha
  rcases h.2 with ⟨hv, -⟩ | ⟨g, cap', cur, hv, hg, hh, -⟩
  · cases hv
  · simp only [Value.slice.injEq, Option.some.injEq, Addr.mk.injEq] at hv
    obtain ⟨⟨rfl, -⟩, -⟩ := hv
    exact ⟨hg, lt_of hh⟩

/-- What holds while the controls are told. -/
structure Tel (S D : List Ct) (b0 : Nat) (sa : Option Addr) (v : Value) (k j : Nat) (es : Array MapEntry) (ck : Nat) (w : World) : Prop where
  map : MpK b0 (lookC (S.drop j)) es ck w
  rest : Rest S D k j
  list : Controls w sa D
  apart : ∀ b o, sa = some ⟨b, o, none⟩ → some b ≠ v.ownBlock
  low : b0 < w.heap.size
  far : ∀ b o, sa = some ⟨b, o, none⟩ → b0 < b ∧ b < w.heap.size
  le : j ≤ S.length
  row : w.ownsRow (b0 + 1) 37 6 v j (ccells (S.take j))

theorem Tel.on {S D : List Ct} {b0 k j ck : Nat} {sa : Option Addr} {v : Value} {es : Array MapEntry} {w w1 : World} (T : Tel S D b0 sa v k j es ck w) (L : Below w.heap.size w w1) : Tel S D b0 sa v k j es ck w1 :=
  ⟨T.map.on (L.block _ (lt_of T.map.blk)), T.rest, T.list.on L, T.apart, Nat.lt_of_lt_of_le T.low L.size, fun b o h => ⟨(T.far b o h).1, Nat.lt_of_lt_of_le (T.far b o h).2 L.size⟩, T.le, own_below T.row L (Nat.le_refl _)⟩

/-- One is told. -/
theorem Tel.told {S D : List Ct} {b0 k j ck : Nat} {sa : Option Addr} {v v' : Value} {es : Array MapEntry} {w w1 : World} {y : Ct} (T : Tel S D b0 sa v k j es ck w) (hj : j < S.length) (hy : S[j] = y) (G : w.grownBy w1 v.ownBlock) (hat : v'.ownBlock = v.ownBlock ∨ v'.ownBlock = some w.heap.size)
    (O : w1.ownsRow (b0 + 1) 37 6 v' (j + 1) (ccells (S.take j) ++ cc1 y)) : MpK b0 (lookC (S.drop j)) es ck w1 ∧ Controls w1 sa D ∧ (∀ b o, sa = some ⟨b, o, none⟩ → some b ≠ v'.ownBlock) ∧ w1.ownsRow (b0 + 1) 37 6 v' (j + 1) (ccells (S.take (j + 1))) := by
  refine ⟨T.map.on (G.block _ (lt_of T.map.blk) (fun h => by have := (T.row.lt _ h.symm).1; omega)), ctls_grown T.list G T.apart, fun b o h e => ?_, ?_⟩
  · rcases hat with e2 | e2
    · exact T.apart b o h (e.trans e2)
    · rw [e2] at e
      have := (T.far b o h).2
      simp at e
      omega
  · have e1 : S.take (j + 1) = S.take j ++ [y] := by rw [← hy]; simp
    rw [ccells_snoc] at O
    rw [e1]
    exact O

set_option maxRecDepth 100000 in
set_option maxHeartbeats 8000000 in
theorem implEach_val (a : Option Addr) (l : List Ct) (cap : Nat) (w : World) (hz : l.length ≤ 4194304) (hwf : Wfs l) (I : Controls w a l) :
    Calls Try.prog 36 #[.slice a l.length cap] w fun e w' => ∃ v, e = .returned v ∧ w'.ownsRow w.heap.size 37 6 v (delF [] l l.length).length (ccells (delF [] l l.length)) ∧ Below w.heap.size w w' := by
  have HWF : Hid (Wfs l) := hwf
  have HK : Hid (∀ (x : Ct) (W : World), _) := fun x W => key_val x W
  have HAS : Hid (AscC (delF [] l l.length)) := ascC_fold _ List.Pairwise.nil
  have HLN : (delF [] l l.length).length ≤ 600 := delF_len l (by simp) l.length
  have HME : Hid (∀ y ∈ delF [] l l.length, y ∈ l) := fun y hy => by
    unfold delF at hy
    rw [List.take_length] at hy
    rcases fold_mem l hy with h | h
    · simp at h
    · exact h
  have HFV := implFst_val a l cap w hz hwf I
  generalize delF [] l l.length = S at *
  obtain ⟨i0, hi, hy0, hy1, hy2⟩ := info_of info_control
  clear hwf
  go_enter Try.func36, Try.ntmps36
  go_wp2_with fail
  refine HFV.mono ?_
  rintro e w1 ⟨es, ck, rfl, M1, hes, L1⟩
  clear HFV
  have hln := mp_len (f := lookC S) M1.blk
  have hb1 := lt_of M1.blk
  obtain ⟨w2, hmk, O2, G2⟩ := run_make_own (P := Try.prog) w1 (w.heap.size + 1) 25 37 i0 _ 6 Try.underlying25 hi hy0 hy1 .i64 .i64 es.size (by rw [hy2]; omega) (by unfold maxLen; omega) (by omega)
  have L12 : Below w1.heap.size w1 w2 := (Below.refl _ _).grown G2 (Nat.le_refl _) (fun j hj => by cases hj)
  have L2 := join_below L1 L12
  have N3 := new_below w2 (.cells #[.slice a l.length cap] 25)
  have m3 := heap_new w2 (.cells #[.slice a l.length cap] 25)
  have L3 := join_below L2 N3
  have c3 : (w2.alloc (.cells #[.slice a l.length cap] 25)).cell? ⟨w2.heap.size, 0, none⟩ = some (.slice a l.length cap) := cell_at m3 0
  have HSV := sortedC_val w2.heap.size a cap l (w2.alloc (.cells #[.slice a l.length cap] 25)) hz (lt_of m3) c3 (I.on L3)
  have hg2 : w1.heap.size < w2.heap.size := by
    have := (own_addr O2 _ _ rfl).2
    exact this
  have T3 : MpK w.heap.size (lookC S) es ck (w2.alloc (.cells #[.slice a l.length cap] 25)) := (M1.on (L12.block _ hb1)).on (N3.block _ (by omega))
  have O3 := own_below O2 N3 (Nat.le_refl _)
  have hs3 : (w2.alloc (.cells #[.slice a l.length cap] 25)).heap.size = w2.heap.size + 1 := Array.size_push ..
  clear c3 m3 N3 L2 M1 I hb1 L1 O2 G2 hes
  go_wp2_with fail
  refine (values_val a l.length cap w2).mono ?_
  rintro e w3 ⟨rfl, rfl⟩
  go_wp2_with fail
  generalize w2.alloc (.cells #[.slice a l.length cap] 25) = W3 at *
  refine HSV.mono ?_
  rintro e w4 ⟨v, rfl, D, hp, hs, O4, L4⟩
  obtain ⟨sa, sc, rfl, IS⟩ := own_ctls O4
  have HFA := own_addr O4
  have HWD : Hid (∀ x ∈ D, WfKK (kc x)) := fun x hx => wf_kc HWF.out (hp.mem_iff.1 hx)
  have HSR : Hid (Srt D) := hs
  have hDl : D.length ≤ 4194304 := by rw [hp.length_eq]; exact hz
  have T0 : Hid (Tel S D w.heap.size sa (.slice (some ⟨w1.heap.size, 0, none⟩) 0 es.size) 0 0 es ck w4) := by
    refine ⟨T3.on (L4.block _ (lt_of T3.blk)), rest_start (fun y hy => hp.mem_iff.2 (HME.out y hy)), IS, fun b o h e => ?_, by have := lt_of T3.blk; have := L4.size; omega, fun b o h => ⟨by have := (HFA b o h).1; have := lt_of T3.blk; omega, (HFA b o h).2⟩, Nat.zero_le _, own_below O3 L4 (Nat.le_refl _)⟩
    have h5 := (HFA b o h).1
    simp [Value.ownBlock] at e
    omega
  have L5 := join_below L3 L4
  clear L3 L4 O4 O3 T3 IS HFA hs hp HSV hs3 hg2 L12 hmk hln HME
  go_wp2
  go_loopw [4, 18] (fun v i wr => ∃ (k j : Nat) (es : Array MapEntry) (ck : Nat), k ≤ D.length ∧ i = .int .i64 k ∧ Below w.heap.size w wr ∧ Hid (Tel S D w.heap.size sa v k j es ck wr)) (fun _ i _ => D.length - (intOf i).toNat)
  case atStart => exact ⟨0, 0, es, ck, by omega, rfl, L5, T0⟩
  case round =>
    clear L5 T0
    obtain ⟨k, j, es, ck, hk, rfl, LR, HT⟩ := hrel
    by_cases hkn : k < D.length
    · obtain ⟨b, u, rfl, hltb, hc0, hc1, hc2, hc3, hc4, hc5⟩ := HT.out.list.at k hkn
      have HWK : Hid (WfKK (kc D[k])) := HWD.out _ (List.getElem_mem hkn)
      have HMI : Hid (lookC (S.drop j) (kc D[k]) = none → Rest S D (k + 1) j) := fun h => rest_miss hkn HT.out.rest h
      have HHI : Hid (∀ y, lookC (S.drop j) (kc D[k]) = some y → ∃ hj : j < S.length, S[j] = y ∧ Rest S D (k + 1) (j + 1) ∧ lookC (S.drop (j + 1)) = delK (lookC (S.drop j)) (kc D[k])) := fun y h => rest_hit HAS.out HSR.out hkn HT.out.rest h
      generalize D[k] = x at *
      have NX := new_below wr (.cells #[.int .i64 x.dv, .int .i64 x.no, .int .i64 x.tk, .int .i64 x.tr, .int .i64 x.dy, .int .i64 x.sa] 37)
      have LX := join_below LR NX
      have TX : Hid (_) := HT.out.on NX
      have HNX : Hid ((wr.alloc (.cells #[.int .i64 x.dv, .int .i64 x.no, .int .i64 x.tk, .int .i64 x.tr, .int .i64 x.dy, .int .i64 x.sa] 37)).heap[wr.heap.size]? = some (.cells #[.int .i64 x.dv, .int .i64 x.no, .int .i64 x.tk, .int .i64 x.tr, .int .i64 x.dy, .int .i64 x.sa] 37)) := heap_new _ _
      obtain ⟨va, vc, rfl, -⟩ := own_form HT.out.row
      cases hf : lookC (S.drop j) (kc x) with
      | none =>
        have HRE := HMI.out hf
        have HLK := (HT.out.map.miss (kc x) HWK.out hf).1
        clear HMI HHI
        go_wp2_with fail
        refine (HK.out x _).mono ?_
        rintro e w5 ⟨rfl, L5⟩
        have T5 := TX.out.on L5
        have hl5 := HLK w5 T5.map.blk
        have N6 := new_below w5 (.cells #[.int .i64 0, .int .i64 0, .int .i64 0, .int .i64 0, .int .i64 0, .int .i64 0] 37)
        have L6 := join_below (join_below LX L5) N6
        have T6' := T5.on N6
        have T6 : Hid (Tel S D w.heap.size (some ⟨b, u, none⟩) (.slice va j vc) (k + 1) j es ck (w5.alloc (.cells #[.int .i64 0, .int .i64 0, .int .i64 0, .int .i64 0, .int .i64 0, .int .i64 0] 37))) := ⟨T6'.map, HRE, T6'.list, T6'.apart, T6'.low, T6'.far, T6'.le, T6'.row⟩
        clear T5 T6' N6 HLK HRE TX LX NX HNX hf L5
        go_wp2
        go_roundw
        case rel => exact ⟨k + 1, j, es, ck, by omega, by go_num, L6, T6⟩
        case measure => simp [intOf]; omega
      | some y =>
        obtain ⟨hj, hyj, HRE, HDE⟩ := HHI.out y hf
        have HLK := HT.out.map.hit (kc x) HWK.out hf
        clear HMI HHI
        go_wp2_with fail
        refine (HK.out x _).mono ?_
        rintro e w5 ⟨rfl, L5⟩
        have T5 := TX.out.on L5
        have hl5 := HLK w5 T5.map.blk
        have hx5 : w5.heap[wr.heap.size]? = some (.cells #[.int .i64 x.dv, .int .i64 x.no, .int .i64 x.tk, .int .i64 x.tr, .int .i64 x.dy, .int .i64 x.sa] 37) := (L5.block _ (lt_of HNX.out)).trans HNX.out
        have N6 := new_below w5 (.cells #[.int .i64 y.dv, .int .i64 y.no, .int .i64 y.tk, .int .i64 y.tr, .int .i64 y.dy, .int .i64 y.sa] 37)
        have T6 := T5.on N6
        have hx6 := kept N6 (lt_of hx5) hx5
        have L6 := join_below (join_below LX L5) N6
        have N7 := new_below (w5.alloc (.cells #[.int .i64 y.dv, .int .i64 y.no, .int .i64 y.tk, .int .i64 y.tr, .int .i64 y.dy, .int .i64 y.sa] 37)) (.cells #[.int .i64 y.dv, .int .i64 y.no, .int .i64 y.tk, .int .i64 y.tr, .int .i64 y.dy, .int .i64 y.sa] 37)
        have T7 := T6.on N7
        have hx7 := kept N7 (lt_of hx6) hx6
        have L7 := join_below L6 N7
        have O7 := T7.row
        have HT7 : Hid (_) := T7
        have e7 : ((w5.alloc (.cells #[.int .i64 y.dv, .int .i64 y.no, .int .i64 y.tk, .int .i64 y.tr, .int .i64 y.dy, .int .i64 y.sa] 37)).alloc (.cells #[.int .i64 y.dv, .int .i64 y.no, .int .i64 y.tk, .int .i64 y.tr, .int .i64 y.dy, .int .i64 y.sa] 37)).heap.size = w5.heap.size + 1 + 1 := (Array.size_push ..).trans (congrArg (· + 1) (Array.size_push ..))
        have HS7 : Hid (∀ i u, (cc1 y)[i]? = some u → ((w5.alloc (.cells #[.int .i64 y.dv, .int .i64 y.no, .int .i64 y.tk, .int .i64 y.tr, .int .i64 y.dy, .int .i64 y.sa] 37)).alloc (.cells #[.int .i64 y.dv, .int .i64 y.no, .int .i64 y.tk, .int .i64 y.tr, .int .i64 y.dy, .int .i64 y.sa] 37)).cell? (Addr.add ⟨w5.heap.size + 1, 0, none⟩ i) = some u) := by
          have h9 := six_at (w := w5.alloc (.cells #[.int .i64 y.dv, .int .i64 y.no, .int .i64 y.tk, .int .i64 y.tr, .int .i64 y.dy, .int .i64 y.sa] 37)) (p := y)
          rw [show (w5.alloc (.cells #[.int .i64 y.dv, .int .i64 y.no, .int .i64 y.tk, .int .i64 y.tr, .int .i64 y.dy, .int .i64 y.sa] 37)).heap.size = w5.heap.size + 1 from Array.size_push ..] at h9
          exact h9
        have hlo7 := T7.low
        have hbb : Hid (b < wr.heap.size) := hltb
        clear T5 T6 T7 N6 N7 hx5 hx6 TX LX NX HNX L6 L5 HLK
        go_wp2_with (at_builtin; refine wpList_append_own_at _ rfl _ _ 25 rfl (w.heap.size + 1) 37 i0 (lgV ⟨0, 0, 0, 0, 0, 0⟩) 6 48 Try.underlying25 hi hy0 hy1 hy2 rfl (by decide) _ _ _ rfl O7 ⟨w5.heap.size + 1, 0, none⟩ 1 1 (cc1 y) rfl rfl ?c1 ?c2 ?c3 ?c4 ?c5 ?_)
        all_goals try (first | exact HS7.out | exact cc1_one y)
        case c3 => unfold maxLen; omega
        case c4 => omega
        case c5 => omega
        intro v' w6 O6 G6 _ hat
        obtain ⟨q1, q2, q3, q4⟩ := HT7.out.told hj hyj G6 (by rw [show ((w5.alloc (.cells #[.int .i64 y.dv, .int .i64 y.no, .int .i64 y.tk, .int .i64 y.tr, .int .i64 y.dy, .int .i64 y.sa] 37)).alloc (.cells #[.int .i64 y.dv, .int .i64 y.no, .int .i64 y.tk, .int .i64 y.tr, .int .i64 y.dy, .int .i64 y.sa] 37)).heap.size = w5.heap.size + 1 + 1 from (Array.size_push ..).trans (congrArg (· + 1) (Array.size_push ..))]; exact hat) O6
        have L8 : Below w.heap.size w w6 := L7.grown G6 L7.size (fun i hi => by have := (O7.lt i hi).1; omega)
        have hlo8 : w.heap.size < w6.heap.size := Nat.lt_of_lt_of_le hlo7 G6.size
        have hx8 : w6.heap[wr.heap.size]? = some (.cells #[.int .i64 x.dv, .int .i64 x.no, .int .i64 x.tk, .int .i64 x.tr, .int .i64 x.dy, .int .i64 x.sa] 37) := (G6.block _ (lt_of hx7) (fun h => by have := (HT.out.row.lt _ h.symm).2; omega)).trans hx7
        have HFA := HT7.out.far
        have HFB : Hid (w.heap.size < b ∧ b < w6.heap.size) := ⟨(HFA b u rfl).1, Nat.lt_of_lt_of_le (HFA b u rfl).2 G6.size⟩
        have x0 : w6.cell? ⟨wr.heap.size, 0, none⟩ = some (.int .i64 x.dv) := cell_at hx8 0
        have x1 : w6.cell? ⟨wr.heap.size, 1, none⟩ = some (.int .i64 x.no) := cell_at hx8 1
        have x2 : w6.cell? ⟨wr.heap.size, 2, none⟩ = some (.int .i64 x.tk) := cell_at hx8 2
        have x3 : w6.cell? ⟨wr.heap.size, 3, none⟩ = some (.int .i64 x.tr) := cell_at hx8 3
        have x4 : w6.cell? ⟨wr.heap.size, 4, none⟩ = some (.int .i64 x.dy) := cell_at hx8 4
        have x5 : w6.cell? ⟨wr.heap.size, 5, none⟩ = some (.int .i64 x.sa) := cell_at hx8 5
        have HQ : Hid (_) := And.intro q1 (And.intro q2 (And.intro q3 q4))
        clear q1 q2 q3 q4 HT7 HFA hx8 hx7 O7 O6 G6 hat hyj L7 HS7 e7 hlo7 hl5 HT
        go_wp2_with fail
        refine (HK.out x _).mono ?_
        rintro e w7 ⟨rfl, L7⟩
        obtain ⟨q1, q2, q3, q4⟩ := HQ.out
        have M7 := q1.on (L7.block _ (lt_of q1.blk))
        obtain ⟨es9, hdel, M9⟩ := M7.del (kc x) HWK.out hf
        have L9 := sb_below (o' := .map es9 ck) (join_below L8 L7) M7.blk (Nat.le_refl _)
        have T9 : Hid (Tel S D w.heap.size (some ⟨b, u, none⟩) v' (k + 1) (j + 1) es9 ck (Go.ChangeMaps.setBlock w7 w.heap.size (.map es9 ck))) := by
          refine ⟨by rw [HDE]; exact M9, HRE, ctls_block (q2.on L7) (by rw [sb_size]; exact Nat.le_refl _) (fun b' o' h => ?_), q3, by rw [sb_size]; exact Nat.lt_of_lt_of_le hlo8 L7.size, fun b' o' h => ?_, hj, sb_own (own_below q4 L7 (Nat.le_refl _)) M7.blk (Nat.lt_succ_self _)⟩
          · simp only [Option.some.injEq, Addr.mk.injEq] at h
            obtain ⟨rfl, -⟩ := h
            exact sb_other M7.blk (by have := HFB.out.1; omega)
          · simp only [Option.some.injEq, Addr.mk.injEq] at h
            obtain ⟨rfl, -⟩ := h
            rw [sb_size]
            exact ⟨HFB.out.1, Nat.lt_of_lt_of_le HFB.out.2 L7.size⟩
        clear q1 q2 q3 q4 HQ M7 M9 HDE HRE hf L8 L7 HFB
        go_wp2
        go_roundw
        case rel => exact ⟨k + 1, j + 1, es9, ck, by omega, by go_num, L9, T9⟩
        case measure => simp [intOf]; omega
    · obtain rfl : k = D.length := by omega
      have hre := rest_end HT.out.rest
      have O1 := HT.out.row
      have hj2 : j = S.length := by
        have h8 := congrArg List.length hre
        rw [List.length_take] at h8
        have := HT.out.le
        omega
      rw [hre, hj2] at O1
      obtain ⟨va, vc, rfl, -⟩ := own_form O1
      have HO : Hid (_) := own_lower O1 (Nat.le_succ _)
      clear O1 hre hj2 HT
      go_wp2
      go_ret
      exact ⟨_, rfl, HO.out, LR⟩

end Hn
end Go.Proofs.Ytbmfhdlbbaabgaa
