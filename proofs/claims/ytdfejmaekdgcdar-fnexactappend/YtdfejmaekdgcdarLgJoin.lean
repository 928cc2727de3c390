/- Texts put together by copy, records, logs that they are put behind, and logs that are torn: the program. -/
import Derived.Test.YtdfejmaekdgcdarLgRec
import Derived.Test.YtdfejmaekdgcdarLgSame
import Derived.Test.YtdfejmaekdgcdarSqRow
import Derived.Test.YtdfejmaekdgcdarShelf
import Derived.Laws.CopyRow
import Derived.Laws.CopyOwn
namespace Go.Proofs.Ytdfejmaekdgcdar
namespace Lg10
open Go.ChangeShapes Go.WideShapes Go.ChangeAt Go.RowKit
open Pk (new_below join_below bcells bcells_length cell_at lt_of)
open Gt (Txts)
set_option linter.unusedSimpArgs false
set_option linter.unusedVariables false

/-- The bytes of texts one behind the other. -/
def catL (ts : List ByteArray) : List UInt8 := ts.flatMap fun t => t.data.toList

/-- How many bytes the first k texts have. -/
def catN (ts : List ByteArray) (k : Nat) : Nat := (catL (ts.take k)).length

theorem catN_zero (ts : List ByteArray) : catN ts 0 = 0 := rfl

theorem cat_step (ts : List ByteArray) (k : Nat) (h : k < ts.length) : catL (ts.take (k + 1)) = catL (ts.take k) ++ ts[k].data.toList := by
  unfold catL
  rw [List.take_succ_eq_append_getElem h, List.flatMap_append]
  simp

theorem catN_step (ts : List ByteArray) (k : Nat) (h : k < ts.length) : catN ts (k + 1) = catN ts k + ts[k].size := by
  unfold catN
  rw [cat_step ts k h, List.length_append, Array.length_toList]
  rfl

theorem catN_le (ts : List ByteArray) : ∀ (d k : Nat), k + d = ts.length → catN ts k ≤ catN ts ts.length
  | 0, k, h => by rw [show k = ts.length from by omega]; exact Nat.le_refl _
  | d + 1, k, h => by
    have := catN_le ts d (k + 1) (by omega)
    rw [catN_step ts k (by omega)] at this
    omega

theorem catN_all (ts : List ByteArray) : catN ts ts.length = (catL ts).length := by unfold catN; rw [List.take_length]

theorem bc_append (a b : List UInt8) : bcells (a ++ b) = bcells a ++ bcells b := by simp [bcells]

/-- A text copied to a place in a row of bytes. -/
theorem copy_text (W : World) (ty : TypeId) (g o dLen dCap : Nat) (s : ByteArray) (cur : List Value) (hg : W.heap[g]? = some (.cells cur.toArray 5 (0, 0))) (hle : s.size ≤ dLen) (hfit : o + s.size ≤ cur.length) :
    (Builtin.copy_ #[119, 9] ty #[.slice (some ⟨g, o, none⟩) dLen dCap, .string s]).run Try.prog W = .ok (.int .i64 (s.size : Int)) (W.setRow g (cur.take o ++ bcells s.data.toList ++ cur.drop (o + s.size)).toArray) := by
  have hsz1 : (Try.prog.info? 5).map (·.size) = some 1 := by kernel_rfl
  have hln : (bcells s.data.toList).length = s.size := by rw [bcells_length, Array.length_toList]; rfl
  have h1 : ∀ v ∈ bcells s.data.toList, v.oneCell' = true := fun v hv => by
    obtain ⟨b, -, rfl⟩ := List.mem_map.1 hv
    rfl
  have hst := run_storeCells_at Try.prog g o 5 (bcells s.data.toList) 0 cur.toArray W hg (by rw [hln]; simpa using hfit) h1
  rw [hln, Nat.add_zero] at hst
  have hmin : Nat.min s.size dLen = s.size := Nat.min_eq_left hle
  have htk : List.take s.size (List.map (fun b : UInt8 => Value.int IntKind.u8 (b.toNat : Int)) s.data.toList) = bcells s.data.toList := by
    rw [List.take_of_length_le (by rw [List.length_map, Array.length_toList]; exact Nat.le_refl _)]
    rfl
  cases hq : Try.prog.info? 5 with
  | none => simp [hq] at hsz1
  | some i =>
    simp [Builtin.copy_, run_underlying Try.underlying119, Builtin.lenOf, Builtin.firstCells, sizeOf, typeInfo, hq, hmin]
    rw [htk, hst]
    simp [Result.andThen, goInt]

theorem copy_nothing (W : World) (ty : TypeId) (d : Option Addr) (dLen dCap : Nat) (s : ByteArray) (h0 : s.size = 0) :
    (Builtin.copy_ #[119, 9] ty #[.slice d dLen dCap, .string s]).run Try.prog W = .ok (.int .i64 0) W := by
  have hsz1 : (Try.prog.info? 5).map (·.size) = some 1 := by kernel_rfl
  cases hq : Try.prog.info? 5 with
  | none => simp [hq] at hsz1
  | some i =>
    cases d <;> simp [Builtin.copy_, run_underlying Try.underlying119, Builtin.lenOf, Builtin.firstCells, sizeOf, typeInfo, hq, h0, storeCells, goInt]

/-- What a text's copy leaves: the bytes so far and its own. -/
theorem filled {cur : List Value} {a : List UInt8} {s : ByteArray} {o : Nat} (ha : a.length = o) (hc : cur.take o = bcells a) (hf : o + s.size ≤ cur.length) : (cur.take o ++ bcells s.data.toList ++ cur.drop (o + s.size)).take (o + s.size) = bcells (a ++ s.data.toList) ∧ (cur.take o ++ bcells s.data.toList ++ cur.drop (o + s.size)).length = cur.length := by
  have hs : (bcells s.data.toList).length = s.size := by rw [bcells_length, Array.length_toList]; rfl
  have h1 : (cur.take o ++ bcells s.data.toList).length = o + s.size := by rw [List.length_append, List.length_take, hs]; omega
  constructor
  · rw [List.take_append_of_le_length (by omega), List.take_of_length_le (by omega), hc, bc_append]
  · rw [List.length_append, h1, List.length_drop]
    omega

set_option maxRecDepth 100000 in
set_option maxHeartbeats 4000000 in
theorem joined_val (v : Value) (ts : List ByteArray) (w : World) (T : Txts w v ts) (hn : ts.length ≤ 10) (hz : (catL ts).length ≤ 1000000) :
    Calls Try.prog 74 #[v] w fun e w' => e = .returned (.string ⟨(catL ts).toArray⟩) ∧ Below w.heap.size w w' := by
  obtain ⟨a1, c1, rfl, h1⟩ := T
  have H1 : Hid (0 < ts.length → ∃ g, a1 = some ⟨g, 0, none⟩ ∧ g < w.heap.size ∧ ∀ i (h : i < ts.length), w.cell? ⟨g, i, none⟩ = some (.string ts[i])) := fun h => h1.resolve_left (by omega)
  clear h1
  have HA : Hid (catN ts ts.length = (catL ts).length) := catN_all ts
  have HLE : Hid (∀ k, k ≤ ts.length → catN ts k ≤ (catL ts).length) := fun k hk => by rw [← catN_all]; exact catN_le ts (ts.length - k) k (by omega)
  have hnI : (ts.length : Int) ≤ 10 := by omega
  generalize hR : (⟨(catL ts).toArray⟩ : ByteArray) = R at *
  go_enter Try.func74, Try.ntmps74
  go_wp2
  go_loopw [3, 12] (fun n i wr => ∃ k : Nat, k ≤ ts.length ∧ i = .int .i64 k ∧ n = .int .i64 (catN ts k : Nat) ∧ Hid (wr = w)) (fun _ i _ => ts.length - (intOf i).toNat)
  case atStart => exact ⟨0, by omega, rfl, rfl, rfl⟩
  case round =>
    obtain ⟨k, hk, rfl, rfl, hw⟩ := hrel
    have hw2 : w = wr := hw.out.symm
    subst hw2
    by_cases hlt : k < ts.length
    · obtain ⟨g1, rfl, hg1, hc1⟩ := H1.out (by omega)
      have r1 : w.cell? ⟨g1, k, none⟩ = some (.string ts[k]) := hc1 k hlt
      have hkI : (k : Int) < (ts.length : Int) := by omega
      have hk0 : (0 : Int) ≤ (k : Int) := by omega
      have hst := catN_step ts k hlt
      have hle := HLE.out (k + 1) (by omega)
      clear hc1
      generalize ts[k] = x at *
      have hw1 : IntKind.i64.wrap ((catN ts k : Nat) + (x.size : Int)) = ((catN ts k : Nat) + (x.size : Int)) := by rw [IntKind.wrap_i64]; omega
      go_wp2
      go_roundw
      case rel => exact ⟨k + 1, by omega, by go_num, by rw [hst]; go_num, by show _; first | trivial | rfl⟩
      case measure => simp [intOf]; omega
    · obtain rfl : k = ts.length := by omega
      have hkI : ¬ (ts.length : Int) < (ts.length : Int) := by omega
      rw [HA.out]
      generalize hN : (catL ts).length = N at *
      have hNI : (N : Int) ≤ 1000000 := by omega
      have hmk := Sq.make_run 119 5 (.int .u8 0) 1 N Try.underlying119 Pk.info_u8 rfl (by omega) (by omega)
      have hg0 := Pk.heap_new w (.cells (Sq.tab N (fun _ => .int .u8 0)) 5)
      have L0 := new_below w (.cells (Sq.tab N (fun _ => .int .u8 0)) 5)
      have hl0 : Hid ((Sq.tab N (fun _ => Value.int .u8 0)).toList.length = N) := by show _ = _; rw [Array.length_toList, Sq.tab_size]
      clear hw
      go_wp2
      go_loopw [7, 25] (fun n i wr => ∃ (k : Nat) (cur : List Value), k ≤ ts.length ∧ i = .int .i64 k ∧ n = .int .i64 (catN ts k : Nat) ∧ Hid (wr.heap[w.heap.size]? = some (.cells cur.toArray 5 (0, 0))) ∧ Hid (cur.length = N) ∧ Hid (cur.take (catN ts k) = bcells (catL (ts.take k))) ∧ Hid (Below w.heap.size w wr)) (fun _ i _ => ts.length - (intOf i).toNat)
      case atStart => exact ⟨0, (Sq.tab N (fun _ => .int .u8 0)).toList, by omega, rfl, rfl, by rw [Array.toArray_toList]; exact hg0, hl0, rfl, L0⟩
      case round =>
        clear hg0 L0 hl0 hmk
        obtain ⟨k, cur, hk, rfl, rfl, HG, HL, HC, HB⟩ := hrel
        by_cases hlt : k < ts.length
        · obtain ⟨g1, rfl, hg1, hc1⟩ := H1.out (by omega)
          have r1 : wr.cell? ⟨g1, k, none⟩ = some (.string ts[k]) := by rw [HB.out.cell (p := ⟨g1, k, none⟩) hg1]; exact hc1 k hlt
          have hkI : (k : Int) < (ts.length : Int) := by omega
          have hk0 : (0 : Int) ≤ (k : Int) := by omega
          have hst : Hid (_) := catN_step ts k hlt
          have hle := HLE.out (k + 1) (by omega)
          rw [hst.out] at hle
          have HF : Hid (_) := filled (cur := cur) (a := catL (ts.take k)) (s := ts[k]) (o := catN ts k) rfl HC.out (by rw [HL.out]; exact hle)
          have HCS : Hid (_) := cat_step ts k hlt
          clear hc1
          generalize ts[k] = x at *
          generalize catN ts k = o at *
          have hw1 : IntKind.i64.wrap ((o : Int) + (x.size : Int)) = ((o : Int) + (x.size : Int)) := by rw [IntKind.wrap_i64]; omega
          have hoN : (o : Int) ≤ (N : Int) := by omega
          by_cases hx : x.size = 0
          · have hcp := fun d n => copy_nothing wr 3 d n n x hx
            have hx0 : (x.size : Int) = 0 := by omega
            go_wp2
            go_roundw
            case rel =>
              refine ⟨k + 1, cur, by omega, by go_num, ?_, HG, HL, ?_, HB⟩
              · rw [hst.out, hx]
                go_num
              · show _ = _
                rw [hst.out, HCS.out, hx, Nat.add_zero, HC.out]
                have : x.data.toList = [] := List.eq_nil_of_length_eq_zero (by rw [Array.length_toList]; exact hx)
                rw [this, List.append_nil]
            case measure => simp [intOf]; omega
          · have hsl : ∀ W, (Instr.slice 119 (.slice (some ⟨w.heap.size, 0, none⟩) N N) (some (.int .i64 (o : Int))) none none).run Try.prog W = .ok (.slice (some ⟨w.heap.size, o, none⟩) (N - o) (N - o)) W := fun W => by
              have hne : ¬ N = o := by omega
              simp [go_sem, Try.underlying119, hoN, hne, Addr.add]
              try omega
            have hcp := copy_text wr 3 w.heap.size o (N - o) (N - o) x cur HG.out (by omega) (by rw [HL.out]; omega)
            have hg2 := setRow_heap wr w.heap.size _ (cur.take o ++ bcells x.data.toList ++ cur.drop (o + x.size)).toArray _ _ HG.out
            have hb2 := below_setRow HB.out (Nat.le_refl _) (cur.take o ++ bcells x.data.toList ++ cur.drop (o + x.size)).toArray
            generalize cur.take o ++ bcells x.data.toList ++ cur.drop (o + x.size) = cur2 at *
            generalize wr.setRow w.heap.size cur2.toArray = wr2 at *
            go_wp2
            go_roundw
            case rel =>
              refine ⟨k + 1, cur2, by omega, by go_num, ?_, hg2, ?_, ?_, hb2⟩
              · rw [hst.out]
                go_num
              · show _ = _
                rw [HF.out.2]
                exact HL.out
              · show _ = _
                rw [hst.out, HCS.out]
                exact HF.out.1
            case measure => simp [intOf]; omega
        · obtain rfl : k = ts.length := by omega
          have hkI : ¬ (ts.length : Int) < (ts.length : Int) := by omega
          rw [HA.out, List.take_length, List.take_of_length_le (Nat.le_of_eq HL.out)] at HC
          have hcv : (convert 119 9 (.slice (some ⟨w.heap.size, 0, none⟩) N N)).run Try.prog wr = .ok (.string R) wr := by
            rw [← hN, ← hR]
            refine run_convert_bytes_back wr 119 9 5 ⟨w.heap.size, 0, none⟩ _ (catL ts) Try.underlying119 Try.underlying5 Try.underlying9 ?_
            intro j hj
            rw [show Addr.add ⟨w.heap.size, 0, none⟩ j = ⟨w.heap.size, j, none⟩ from by simp [Addr.add]; exact Eq.symm, cell_at HG.out j, HC.out]
            simp [bcells, hj]
          go_wp2
          go_ret
          exact ⟨rfl, HB.out⟩

theorem cell_list (W : World) (l : List Value) (t : TypeId) (j : Nat) : (W.alloc (.cells l.toArray t)).cell? ⟨W.heap.size, j, none⟩ = l[j]? := by
  rw [Pk.cell_at (Pk.heap_new W (.cells l.toArray t)) j]
  simp

theorem new_txts3 (W : World) (a b c : ByteArray) : Txts (W.alloc (.cells #[.string a, .string b, .string c] 9)) (.slice (some ⟨W.heap.size, 0, none⟩) 3 3) [a, b, c] := by
  refine ⟨some ⟨W.heap.size, 0, none⟩, 3, rfl, Or.inr ⟨W.heap.size, rfl, by simp, fun i hi => ?_⟩⟩
  rw [Pk.cell_at (Pk.heap_new W (.cells #[.string a, .string b, .string c] 9)) i]
  match i, hi with
  | 0, _ => rfl
  | 1, _ => rfl
  | 2, _ => rfl

theorem new_txts2 (W : World) (a b : ByteArray) : Txts (W.alloc (.cells #[.string a, .string b] 9)) (.slice (some ⟨W.heap.size, 0, none⟩) 2 2) [a, b] := by
  refine ⟨some ⟨W.heap.size, 0, none⟩, 2, rfl, Or.inr ⟨W.heap.size, rfl, by simp, fun i hi => ?_⟩⟩
  rw [Pk.cell_at (Pk.heap_new W (.cells #[.string a, .string b] 9)) i]
  match i, hi with
  | 0, _ => rfl
  | 1, _ => rfl

theorem cat2 (a b : ByteArray) : (⟨(catL [a, b]).toArray⟩ : ByteArray) = a ++ b := by
  apply ByteArray.ext
  show (catL [a, b]).toArray = (a ++ b).data
  rw [ByteArray.data_append]
  simp [catL]

theorem cat3 (a b c : ByteArray) : (⟨(catL [a, b, c]).toArray⟩ : ByteArray) = a ++ b ++ c := by
  apply ByteArray.ext
  show (catL [a, b, c]).toArray = (a ++ b ++ c).data
  rw [ByteArray.data_append, ByteArray.data_append]
  simp [catL]

set_option maxRecDepth 100000 in
set_option maxHeartbeats 1000000 in
theorem implRecord_val (s : ByteArray) (w : World) (hs : s.size ≤ maxLen) :
    Calls Try.prog 23 #[.string s] w fun e w' => e = .returned (.tuple #[.string (rcS s), .bool (rcB s)]) ∧ Below w.heap.size w w' := by
  have hm := hs
  unfold maxLen at hs
  unfold rcS rcB
  by_cases h : s.size ≤ 3000
  · rw [if_pos h, decide_eq_true h]
    have HW1 : Hid (∀ W, _) := fun W => Num.implWordText_any s.size W (by omega)
    have HC : Hid (∀ W, _) := fun W => Num.implCheckSum_any s W hm
    have HW2 : Hid (∀ W, _) := fun W => Num.implWordText_any (Math.crc s.data.toList) W (Math.crc_lt _)
    have l1 : (Num.wordS s.size).size = 4 := Num.wordS_size _
    have l2 : (Num.wordS (Math.crc s.data.toList)).size = 4 := Num.wordS_size _
    have HR : Hid (recS s = ⟨(catL [Num.wordS s.size, Num.wordS (Math.crc s.data.toList), s]).toArray⟩) := by
      show _ = _
      rw [cat3]
      rfl
    have z1 : IntKind.u32.wrap (s.size : Int) = (s.size : Int) := by rw [IntKind.wrap_u32]; omega
    have hI : ¬ (3000 : Int) < (s.size : Int) := by omega
    rw [HR.out]
    clear HR
    generalize Num.wordS (Math.crc s.data.toList) = W2 at *
    generalize Num.wordS s.size = W1 at *
    have hcl : (catL [W1, W2, s]).length ≤ 1000000 := by
      have e1 : W1.data.toList.length = W1.size := Array.length_toList
      have e2 : W2.data.toList.length = W2.size := Array.length_toList
      have e3 : s.data.toList.length = s.size := Array.length_toList
      simp only [catL, List.flatMap_cons, List.flatMap_nil, List.length_append, List.length_nil]
      omega
    have h10 : [W1, W2, s].length ≤ 10 := by simp
    have HJ : Hid (∀ W : World, _) := fun (W : World) => joined_val (.slice (some ⟨W.heap.size, 0, none⟩) 3 3) [W1, W2, s] (W.alloc (.cells #[.string W1, .string W2, .string s] 9)) (new_txts3 W W1 W2 s) h10 hcl
    clear hcl h10
    generalize (⟨(catL [W1, W2, s]).toArray⟩ : ByteArray) = R at *
    generalize Math.crc s.data.toList = C at *
    go_enter Try.func23, Try.ntmps23
    go_wp2_with fail
    refine (HW1.out _).mono ?_
    rintro e w1 ⟨rfl, -, L1⟩
    go_wp2_with fail
    refine (HC.out _).mono ?_
    rintro e w2 ⟨rfl, rfl⟩
    go_wp2_with fail
    refine (HW2.out _).mono ?_
    rintro e w3 ⟨rfl, -, L3⟩
    have K3 := join_below L1 L3
    have N3 := join_below K3 (new_below w3 (.cells #[.string W1, .string W2, .string s] 9))
    go_wp2_with fail
    refine (HJ.out _).mono ?_
    rintro e w4 ⟨rfl, L4⟩
    have K4 := join_below N3 L4
    go_wp2
    go_ret2
    exact ⟨rfl, K4⟩
  · rw [if_neg h, decide_eq_false h]
    have hI : (3000 : Int) < (s.size : Int) := by omega
    go_enter Try.func23, Try.ntmps23
    go_wp2
    go_ret2
    exact ⟨rfl, Below.refl _ _⟩

theorem clone_val (s : ByteArray) (w : World) (hs : s.size ≤ 1048576) :
    Calls Try.prog 60 #[.string s] w fun e w' => e = .returned (.string s) ∧ Below w.heap.size w w' := by
  have HC : Hid (∀ W, _) := fun W => Try.stringslite_Clone s W (by omega)
  go_enter Try.func60, Try.ntmps60
  go_wp2_with fail
  refine (HC.out _).mono ?_
  rintro e w1 ⟨rfl, L1⟩
  go_wp2
  go_ret
  exact ⟨rfl, L1⟩

theorem torn_is (l : ByteArray) (n : Int) : tornS l n = l.extract 0 (min (max n 0) (l.size : Int)).toNat := by
  unfold tornS
  by_cases h0 : n < 0
  · rw [if_pos h0, show (min (max n 0) (l.size : Int)).toNat = 0 from by omega]
    apply ByteArray.ext
    rw [ByteArray.data_extract]
    simp
  · rw [if_neg h0]
    by_cases h1 : (l.size : Int) < n
    · rw [if_pos h1, show (min (max n 0) (l.size : Int)).toNat = l.size from by omega]
      apply ByteArray.ext
      rw [ByteArray.data_extract]
      exact (Array.extract_size (xs := l.data)).symm
    · rw [if_neg h1, show (min (max n 0) (l.size : Int)).toNat = n.toNat from by omega]

set_option maxHeartbeats 1000000 in
theorem implAppend_val (l s : ByteArray) (w : World) (hl : l.size ≤ 1048576) (hs : s.size ≤ maxLen) :
    Calls Try.prog 30 #[.string l, .string s] w fun e w' => e = .returned (.tuple #[.string (apS l s), .bool (apB l s)]) ∧ Below w.heap.size w w' := by
  have HRV : Hid (∀ W, _) := fun W => implRecord_val s W hs
  have HCV : Hid (∀ W, _) := fun W => clone_val l W hl
  have hrz := rcS_size s
  have HAB : Hid (apB l s = (rcB s && decide (l.size + (rcS s).size ≤ 200000))) := rfl
  have HAS : Hid (apS l s = if apB l s = true then l ++ recS s else l) := rfl
  have HRR : Hid (rcB s = true → rcS s = recS s) := fun h => by
    unfold rcB at h
    unfold rcS
    rw [if_pos (of_decide_eq_true h)]
  generalize rcS s = r at *
  generalize hb : rcB s = b at *
  cases b
  · have e1 : apB l s = false := by rw [HAB.out]; rfl
    have e2 : apS l s = l := by rw [HAS.out, if_neg (by rw [e1]; simp)]
    rw [e1, e2]
    go_enter Try.func30, Try.ntmps30
    go_wp2_with fail
    refine (HRV.out _).mono ?_
    rintro e w1 ⟨rfl, L1⟩
    go_wp2_with fail
    refine (HCV.out _).mono ?_
    rintro e w2 ⟨rfl, L2⟩
    have K2 := join_below L1 L2
    go_wp2
    go_ret2
    exact ⟨rfl, K2⟩
  · have hr := HRR.out rfl
    have w1 : IntKind.i64.wrap ((l.size : Int) + (r.size : Int)) = (l.size : Int) + (r.size : Int) := by rw [IntKind.wrap_i64]; omega
    by_cases h2 : l.size + r.size ≤ 200000
    · have e1 : apB l s = true := by rw [HAB.out, decide_eq_true h2]; rfl
      have e2 : apS l s = ⟨(catL [l, r]).toArray⟩ := by rw [HAS.out, if_pos e1, hr, cat2]
      rw [e1, e2]
      have h3 : ¬ (200000 : Int) < (l.size : Int) + (r.size : Int) := by omega
      have hcl : (catL [l, r]).length ≤ 1000000 := by
        have e1 : l.data.toList.length = l.size := Array.length_toList
        have e2 : r.data.toList.length = r.size := Array.length_toList
        simp only [catL, List.flatMap_cons, List.flatMap_nil, List.length_append, List.length_nil]
        omega
      have h10 : [l, r].length ≤ 10 := by simp
      have HJ : Hid (∀ W : World, _) := fun (W : World) => joined_val (.slice (some ⟨W.heap.size, 0, none⟩) 2 2) [l, r] (W.alloc (.cells #[.string l, .string r] 9)) (new_txts2 W l r) h10 hcl
      clear hr HAS HRR hcl h10
      generalize (⟨(catL [l, r]).toArray⟩ : ByteArray) = R at *
      go_enter Try.func30, Try.ntmps30
      go_wp2_with fail
      refine (HRV.out _).mono ?_
      rintro e w1 ⟨rfl, L1⟩
      have N1 := join_below L1 (new_below w1 (.cells #[.string l, .string r] 9))
      go_wp2_with fail
      refine (HJ.out _).mono ?_
      rintro e w2 ⟨rfl, L2⟩
      have K2 := join_below N1 L2
      go_wp2
      go_ret2
      exact ⟨rfl, K2⟩
    · have e1 : apB l s = false := by rw [HAB.out, decide_eq_false h2]; rfl
      have e2 : apS l s = l := by rw [HAS.out, if_neg (by rw [e1]; simp)]
      rw [e1, e2]
      have h3 : (200000 : Int) < (l.size : Int) + (r.size : Int) := by omega
      clear hr HAS HRR
      go_enter Try.func30, Try.ntmps30
      go_wp2_with fail
      refine (HRV.out _).mono ?_
      rintro e w1 ⟨rfl, L1⟩
      go_wp2_with fail
      refine (HCV.out _).mono ?_
      rintro e w2 ⟨rfl, L2⟩
      have K2 := join_below L1 L2
      go_wp2
      go_ret2
      exact ⟨rfl, K2⟩

end Lg10
end Go.Proofs.Ytdfejmaekdgcdar
