/- For every code the law of what is issued answers true: of drawn keys, a drawn ticket and drawn numbers the program's Issue and its model answer the same; what is issued is read with the open key as it was, and with another issuer it is no frame; of a drawn text the program's Read says what its model says, a refusal tells no ticket, and what is read as a ticket verifies and is a good one. The program's own errors and its table of runs, and the tables of the library that are listed, are as their text lays them (the card ties them; over a pruned copy of the project). -/
import Derived.Test.YtcjgkmhpeedhiaaGreatDoorErrs
import Derived.Test.YtcjgkmhpeedhiaaGreatDoorManyAFnIssued
import Derived.ShutString
import Derived.Lib.SmallJoins
import Derived.Test.YtcjgkmhpeedhiaaGreatDoorCards
import Derived.Test.YtcjgkmhpeedhiaaGreatDoorTie
import Derived.Test.YtcjgkmhpeedhiaaGreatDoorManyDFnIssued
import Derived.Test.YtcjgkmhpeedhiaaGreatDoorCurNum
namespace Go.Proofs.YtcjgkmhpeedhiaaGreatDoor.fnIssued
open Go.ChangeShapes Go.WideShapes Go.ChangeAt Go.RowKit Go.Joins
open Go.ChangeMaps (open_string shut_string)
set_option linter.unusedVariables false
set_option linter.unusedSimpArgs false

def IsRow (k:IntKind) (w:World) (a:Option Addr) (len cap:Nat) (zs:List Int):Prop:=
 (a=none∧len=0∧cap=0∧zs= [])∨
 ∃x,a=some x∧len≤cap∧cap≤maxLen∧zs.length=cap∧(∀i,i<zs.length→w.cell? (x.add i)=some (.int k (zs.getD i 0)))∧∀n∈zs,(Lit.int k n).wf=true

set_option maxRecDepth 100000 in
set_option maxHeartbeats 8000000 in
theorem walk (a0:Option Addr) (len0 cap0:Nat) (z0:List Int) (w:World) (w0:IsRow .u8 w a0 len0 cap0 z0) (T:Num.Tens w) (E_errParams:Errs.ErrAt 1 w) (E_errSecret:Errs.ErrAt 2 w) (E_errOpen:Errs.ErrAt 3 w) (E_errMark:Errs.ErrAt 4 w) (E_errText:Errs.ErrAt 5 w) (E_errDraw:Errs.ErrAt 0 w) (R:Pk.Runs w) (SH:w.ShapedOpen Tryz.prog):
 Calls Tryz.prog 3 #[.slice a0 len0 cap0] w fun e w'=>e= .returned (.bool true)∧Below w.heap.size w w':=by
 by_cases hb:len0≤1048576
 ·exact Cur.issued_law a0 len0 cap0 w hb ⟨Below.refl _ _,Cur.bytes_of w a0 len0 cap0 z0 w0,T,Gt.ml_of SH,R,E_errParams,E_errSecret,E_errText,E_errDraw,E_errOpen,E_errMark⟩
 ·clear w0
  go_enter Tryz.func3,Tryz.ntmps3
  go_wp2_with fail
  refine(Cur.big_yes a0 len0 cap0 _ hb).mono ?_
  rintro e w1 ⟨rfl,rfl⟩
  go_wp2
  go_ret
  exact⟨rfl,Below.refl _ _⟩

theorem errs {W:World} (hL:laidMetH Tryz.prog Rows.fnIssuedRow.laid W):Num.Tens W∧Errs.ErrAt 1 W∧Errs.ErrAt 2 W∧Errs.ErrAt 3 W∧Errs.ErrAt 4 W∧Errs.ErrAt 5 W∧Errs.ErrAt 0 W∧Pk.Runs W:=by
 have h0:laidMet Tryz.prog [("math/bits.deBruijn32tab",Rows.laid_math_bits_deBruijn32tab),("math/bits.deBruijn64tab",Rows.laid_math_bits_deBruijn64tab),("internal/strconv.uint64pow10",Rows.laid_internal_strconv_uint64pow10),("unicode/utf8.acceptRanges",Rows.laid_unicode_utf8_acceptRanges),("loop.example/g00211/impl.errParams",Rows.laid_loop_example_g00211_impl_errParams),("loop.example/g00211/impl.errSecret",Rows.laid_loop_example_g00211_impl_errSecret),("loop.example/g00211/impl.errOpen",Rows.laid_loop_example_g00211_impl_errOpen),("loop.example/g00211/impl.errMark",Rows.laid_loop_example_g00211_impl_errMark),("loop.example/g00211/impl.errText",Rows.laid_loop_example_g00211_impl_errText),("loop.example/g00211/impl.errDraw",Rows.laid_loop_example_g00211_impl_errDraw),("loop.example/g00211/impl.fixedRuns",Rows.laid_loop_example_g00211_impl_fixedRuns),("unicode/utf8.first",Rows.laid_unicode_utf8_first)] W:=hL
 exact⟨Tabs.tens_of (laidMet.tail (laidMet.tail h0)),Errs.head (laidMet.tail (laidMet.tail (laidMet.tail (laidMet.tail h0)))) ⟨_,rfl⟩ (by kernel_rfl) (by kernel_rfl),Errs.head (laidMet.tail (laidMet.tail (laidMet.tail (laidMet.tail (laidMet.tail h0))))) ⟨_,rfl⟩ (by kernel_rfl) (by kernel_rfl),Errs.head (laidMet.tail (laidMet.tail (laidMet.tail (laidMet.tail (laidMet.tail (laidMet.tail h0)))))) ⟨_,rfl⟩ (by kernel_rfl) (by kernel_rfl),Errs.head (laidMet.tail (laidMet.tail (laidMet.tail (laidMet.tail (laidMet.tail (laidMet.tail (laidMet.tail h0))))))) ⟨_,rfl⟩ (by kernel_rfl) (by kernel_rfl),Errs.head (laidMet.tail (laidMet.tail (laidMet.tail (laidMet.tail (laidMet.tail (laidMet.tail (laidMet.tail (laidMet.tail h0)))))))) ⟨_,rfl⟩ (by kernel_rfl) (by kernel_rfl),Errs.head (laidMet.tail (laidMet.tail (laidMet.tail (laidMet.tail (laidMet.tail (laidMet.tail (laidMet.tail (laidMet.tail (laidMet.tail h0))))))))) ⟨_,rfl⟩ (by kernel_rfl) (by kernel_rfl),Pk.runs_of (laidMet.tail (laidMet.tail (laidMet.tail (laidMet.tail (laidMet.tail (laidMet.tail (laidMet.tail (laidMet.tail (laidMet.tail (laidMet.tail h0))))))))))⟩

set_option maxRecDepth 100000 in
theorem contract (H:Type) (enc:TypeId×Value→H) (W:World) (base:Nat) (args:Array Value) (ds gs:List (DataW H)) (before:List MemPlace)
 (hval:∀(j:Nat) t v,Tryz.f3.params[j]? =some t→args[j]? =some v→Value.okWide Tryz.prog W .any base t v)
 (hW:DataW.Whole enc Tryz.prog Tryz.f3.params.toList Rows.fnIssuedSpec.vars false W args.toList ds gs before) (hL:laidMetH Tryz.prog Rows.fnIssuedRow.laid W) (hSh:W.ShapedOpen Tryz.prog):
 Calls Tryz.prog 3 args W fun e W'=>∃v,e= .returned v∧Rows.fnIssuedSpec.post enc Tryz.prog Tryz.f3 false true false false W args v W':=by
 have hW':=hW
 obtain⟨p,q,hA0,hV,rfl,hfz,hnd⟩:=hW
 have hA:DataW.TrodAll enc Tryz.prog W 0 (fun _=>true) true Tryz.f3.params.toList args.toList ds p:=hA0
 rw[Tryz.params3]at hA hval
 obtain⟨v0,vs0,d0,ds0,p0,q0,hargs,rfl,rfl,h0,r0⟩:=trodAll_cons hA
 obtain⟨rfl,rfl,rfl⟩:=trodAll_nil r0
 obtain rfl:args= #[v0]:=by cases args;simp_all
 have hlen:=Errs.vars_len hV
 obtain⟨g0,gs0,rfl,hl0⟩:=Errs.len_cons hlen
 obtain⟨g1,gs1,rfl,hl1⟩:=Errs.len_cons hl0
 obtain⟨g2,gs2,rfl,hl2⟩:=Errs.len_cons hl1
 obtain⟨g3,gs3,rfl,hl3⟩:=Errs.len_cons hl2
 obtain⟨g4,gs4,rfl,hl4⟩:=Errs.len_cons hl3
 obtain⟨g5,gs5,rfl,hl5⟩:=Errs.len_cons hl4
 obtain⟨g6,gs6,rfl,hl6⟩:=Errs.len_cons hl5
 obtain rfl:=List.length_eq_zero_iff.1 hl6
 have k0:=h0
 have lt0:∀x∈p0,x.block<W.heap.size:=by obtain⟨m,hm⟩:=k0;exact DataW.trod_lt m _ _ _ hm
 obtain⟨a0,len0,cap0,rfl⟩:=okWide_slice Tryz.underlying22 (hval 0 22 v0 rfl rfl)
 obtain⟨z0,w0⟩:∃zs,IsRow .u8 W a0 len0 cap0 zs:=by
  obtain⟨fuel,hf⟩:=h0
  rcases open_ints Tryz.underlying22 Tryz.underlying5 (by kernel_rfl) hf with⟨hcs,_⟩|⟨x,l,c,zs,hcs,_,hl,hm,hz,_,hcell,hwz⟩
  ·simp[Value.cells]at hcs
   obtain⟨rfl,rfl,rfl⟩:=hcs
   exact⟨[],.inl ⟨rfl,rfl,rfl,rfl⟩⟩
  ·simp[Value.cells]at hcs
   obtain⟨rfl,rfl,rfl⟩:=hcs
   exact⟨zs,.inr ⟨_,rfl,hl,hm,by simpa using hz,hcell,hwz⟩⟩
 clear hA0
 refine(walk a0 len0 cap0 z0 W w0 (errs hL).1 (errs hL).2.1 (errs hL).2.2.1 (errs hL).2.2.2.1 (errs hL).2.2.2.2.1 (errs hL).2.2.2.2.2.1 (errs hL).2.2.2.2.2.2.1 (errs hL).2.2.2.2.2.2.2 hSh).mono fun e W' ⟨he,bel⟩=> ?_
 subst he
 exact⟨_,rfl,_,_,_,[],_,_,hW',trodAll_mk1 (shut_bool Tryz.underlying4 _),(trodAll_cons_mk (Below.trod Errs.laidOut (by kernel_rfl) (of_decide_eq_true (by kernel_rfl)) k0 bel lt0) trodAll_mk0),(Below.trodVars Errs.laidOut bel (by kernel_rfl) hV),bel.frame _,fun h=>by cases h⟩

theorem laid_met (os:Os):laidMet Tryz.prog Rows.fnIssuedRow.laid ((Tabs.tabW 9 Rows.laid_unicode_utf8_first (Pk.runsW (Errs.errW 0 Rows.laid_loop_example_g00211_impl_errDraw (Errs.errW 5 Rows.laid_loop_example_g00211_impl_errText (Errs.errW 4 Rows.laid_loop_example_g00211_impl_errMark (Errs.errW 3 Rows.laid_loop_example_g00211_impl_errOpen (Errs.errW 2 Rows.laid_loop_example_g00211_impl_errSecret (Errs.errW 1 Rows.laid_loop_example_g00211_impl_errParams (Tabs.tabW 10 Rows.laid_unicode_utf8_acceptRanges (Tabs.tabW 8 Rows.laid_internal_strconv_uint64pow10 (Tabs.tabW 12 Rows.laid_math_bits_deBruijn64tab (Tabs.tabW 11 Rows.laid_math_bits_deBruijn32tab (World.holding Tryz.prog os ⟨#[],#[],[]⟩))))))))))))).forCall (fun _ _=>0) ⟨#[],#[.slice none 0 0],[]⟩).memory:=
 laidMet_of_run' 8 (by kernel_rfl) (by kernel_rfl)

theorem reads (os:Os) {H:Type} (enc:TypeId×Value→H):∃x,DataW.whole enc Tryz.prog ((Tabs.tabW 9 Rows.laid_unicode_utf8_first (Pk.runsW (Errs.errW 0 Rows.laid_loop_example_g00211_impl_errDraw (Errs.errW 5 Rows.laid_loop_example_g00211_impl_errText (Errs.errW 4 Rows.laid_loop_example_g00211_impl_errMark (Errs.errW 3 Rows.laid_loop_example_g00211_impl_errOpen (Errs.errW 2 Rows.laid_loop_example_g00211_impl_errSecret (Errs.errW 1 Rows.laid_loop_example_g00211_impl_errParams (Tabs.tabW 10 Rows.laid_unicode_utf8_acceptRanges (Tabs.tabW 8 Rows.laid_internal_strconv_uint64pow10 (Tabs.tabW 12 Rows.laid_math_bits_deBruijn64tab (Tabs.tabW 11 Rows.laid_math_bits_deBruijn32tab (World.holding Tryz.prog os ⟨#[],#[],[]⟩))))))))))))).forCall (fun _ _=>0) ⟨#[],#[.slice none 0 0],[]⟩).memory Tryz.f3.params.toList Rows.fnIssuedSpec.vars false (#[.slice none 0 0]:Array Value).toList 8=some x:=
 Option.isSome_iff_exists.1 (by kernel_rfl)

set_option maxRecDepth 100000 in
theorem lifted (os:Os) (started:os.Started) (H:Type) (enc:TypeId×Value→H) (F:Stop.Interp):
 ReturnsInHanded {} Tryz.checked os 3 .any ((OpenSpec.ofChange Rows.fnIssuedSpec).preRow enc Tryz.prog Tryz.f3 Rows.fnIssuedRow.domain false Rows.fnIssuedRow.laid) (((OpenSpec.ofChange Rows.fnIssuedSpec).at F).post enc Tryz.prog Tryz.f3 false true false false):=by
 obtain⟨x,hx⟩:=reads os enc
 refine returnsInHanded_of_row (C:=Tryz.checked) (s:=OpenSpec.ofChange Rows.fnIssuedSpec) Errs.own started (by kernel_rfl) Tryz.func3
  (witness_row_at (enc:=enc) (C:=Tryz.checked) false (Tabs.tabW 9 Rows.laid_unicode_utf8_first (Pk.runsW (Errs.errW 0 Rows.laid_loop_example_g00211_impl_errDraw (Errs.errW 5 Rows.laid_loop_example_g00211_impl_errText (Errs.errW 4 Rows.laid_loop_example_g00211_impl_errMark (Errs.errW 3 Rows.laid_loop_example_g00211_impl_errOpen (Errs.errW 2 Rows.laid_loop_example_g00211_impl_errSecret (Errs.errW 1 Rows.laid_loop_example_g00211_impl_errParams (Tabs.tabW 10 Rows.laid_unicode_utf8_acceptRanges (Tabs.tabW 8 Rows.laid_internal_strconv_uint64pow10 (Tabs.tabW 12 Rows.laid_math_bits_deBruijn64tab (Tabs.tabW 11 Rows.laid_math_bits_deBruijn32tab (World.holding Tryz.prog os ⟨#[],#[],[]⟩))))))))))))) #[.slice none 0 0] rfl (by kernel_rfl) (by kernel_rfl) (by kernel_rfl)
   (OpenSpec.preRow_of_cond 8 hx rfl (fun k hk=>by cases hk) (by kernel_rfl) (laid_met os))) ?_
 intro W base args ds gs before hval hW _ _ _ hL hSh _
 exact contract H enc W base args ds gs before hval hW hL hSh

set_option maxRecDepth 100000 in
theorem said:Rows.FnIssuedSaid:=
 OpenClaim.holds_of_cond 3 Tryz.f3 rfl rfl rfl rfl rfl rfl rfl ⟨rfl,rfl,rfl,rfl,rfl⟩ rfl rfl rfl rfl rfl (by kernel_rfl) Tryz.func3 (by kernel_rfl)
  (of_decide_eq_true (by kernel_rfl)) (by unfold Func.isWrapper;first|(rw[if_pos (by decide+kernel)];kernel_rfl)|(rw[if_neg (by decide+kernel)];exact⟨rfl,rfl⟩))
  (fun os started H enc _ F=>by rw[OpenClaim.pre_eq_preRow];exact lifted os started H enc F)

theorem plain (f:FuncId) (fn:Func) (hf:Tryz.pinned.checked.prog.funcNamed "loop.example/g00211/laws.FnIssued" =some f) (hfn:Tryz.pinned.checked.prog.funcs[f]? =some fn):
 true=Tryz.pinned.checked.prog.looks []∧∀(j:Nat) t,fn.params[j]? =some t→Tryz.pinned.checked.prog.wantsStandIn t=false:=by
 obtain rfl:f=3:=Option.some.inj ((show Tryz.prog.funcNamed "loop.example/g00211/laws.FnIssued" =some 3 by kernel_rfl).symm.trans hf)|>.symm
 obtain rfl:fn=Tryz.f3:=(Option.some.inj (Tryz.func3.symm.trans hfn)).symm
 refine⟨by kernel_rfl,fun j t ht=> ?_⟩
 rw[Tryz.params3]at ht
 obtain rfl:t=22:=by simpa using Array.mem_of_getElem? ht
 exact(show Tryz.prog.wantsStandIn 22=false by kernel_rfl)

theorem card:Rows.FnIssuedCardSaid:=
 Claim7.holds_tied_plain_at .later [] _ _ _ _ said (fun _ h=>by cases h) (by kernel_rfl) (fun _ h=>by cases h) fnIssued_row_tie rfl ⟨rfl,rfl⟩ (by kernel_rfl) rfl plain (by kernel_rfl)
end Go.Proofs.YtcjgkmhpeedhiaaGreatDoor.fnIssued
namespace Go.Proofs.YtcjgkmhpeedhiaaGreatDoor
theorem FnIssued_holds:Rows.FnIssuedCardSaid:=fnIssued.card
end Go.Proofs.YtcjgkmhpeedhiaaGreatDoor
