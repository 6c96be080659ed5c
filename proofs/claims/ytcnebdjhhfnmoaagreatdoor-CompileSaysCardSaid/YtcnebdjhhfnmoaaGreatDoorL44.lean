/- What the listed variables, and the world's shape, give the walks. -/
import Derived.Test.YtcnebdjhhfnmoaaGreatDoorRows
import Derived.Test.YtcnebdjhhfnmoaaGreatDoorL14
import Derived.ProofKit
import Derived.LaidMore
import Derived.OpenShut
import Derived.Lay
import Derived.LaidSub
import Derived.Stop.Joined
import Derived.Shelf.Vars
import Derived.Lib.LaidTab
import Derived.WalkKit
import Derived.Handed
import Derived.LaidLaws
set_option maxHeartbeats 32000000
set_option maxRecDepth 100000
namespace Go.Proofs.YtcnebdjhhfnmoaaGreatDoor
open Go.ChangeShapes Go.WideShapes Go.ChangeAt Go.WideElems Go.RowKit
def laidL : List (String × DataW Unit) := [("unicode/utf8.acceptRanges", Rows.laid_unicode_utf8_acceptRanges), ("unicode/utf8.first", Rows.laid_unicode_utf8_first)]
theorem env_of {W:World}(_:laidMetH Tryz.prog laidL W)(hsh:W.ShapedOpen Tryz.prog):Env W:=
 ⟨cell_of_shapedOpen_int (P:=Tryz.prog) (g:=0) (t:=3) (zero:=#[.int .i64 0]) hsh (of_decide_eq_true (by kernel_rfl)) (by kernel_rfl) rfl (by kernel_rfl) (by kernel_rfl) Tryz.underlying3⟩
theorem laid_met (os:Os)(args:Array Value):laidMetH Tryz.prog laidL ((World.laidAll Tryz.prog os laidL).forCall (fun _ _=>0) ⟨#[],args,[]⟩).memory:=by
 rw [MakeChecks.laidMetH_plain _ _ _ (by kernel_rfl)]
 exact laidMet_laidAll _ (by kernel_rfl) (by kernel_rfl)
theorem laid_shaped (os:Os)(args:Array Value):((World.laidAll Tryz.prog os laidL).forCall (fun _ _=>0) ⟨#[],args,[]⟩).Shaped Tryz.prog:=World.shaped_of_ZipB (by kernel_rfl) (by kernel_rfl)
end Go.Proofs.YtcnebdjhhfnmoaaGreatDoor
namespace Go.Proofs.YtcnebdjhhfnmoaaGreatDoor
open Go.ChangeShapes Go.WideShapes Go.ChangeAt Go.RowKit
theorem own_knob:ownKnob Tryz.prog.godebug=none:=by kernel_rfl
theorem env_wrap {H:Type}{enc:TypeId×Value→H}{os:Os}{f:FuncId}{fn:Func}{s:ChangeSpec}(started:os.Started)(noInit:Tryz.prog.inits.idxOf? f=none)(hfn:Tryz.prog.funcs[f]?=some fn)(args0:Array Value)
  (hok:Input.okWideB Tryz.prog ((World.laidAll Tryz.prog os laidL).forCall (fun _ _=>0) ⟨#[],args0,[]⟩) f ⟨#[],args0,[]⟩=true)
  (hpre:s.preB enc Tryz.prog fn [] false ((World.laidAll Tryz.prog os laidL).forCall (fun _ _=>0) ⟨#[],args0,[]⟩).memory args0 8=true)
  (hsz:s.sizedB enc Tryz.prog fn false ((World.laidAll Tryz.prog os laidL).forCall (fun _ _=>0) ⟨#[],args0,[]⟩).memory args0 8=true)
  (walk:∀(W:World) (base:Nat) (args:Array Value) (ds gs:List (DataW H)) (before:List MemPlace),
   (∀(j:Nat) t v,fn.params[j]?=some t→args[j]?=some v→Value.okWide Tryz.prog W .any base t v) →
   DataW.Whole enc Tryz.prog fn.params.toList s.vars false W args.toList ds gs before→Env W →
   Calls Tryz.prog f args W fun e W'=>∃v,e=.returned v∧s.post enc Tryz.prog fn false true false false W args v W') :
  ReturnsInHanded {} Tryz.checked os f .any (fun w args=>(s.pre enc Tryz.prog fn [] false w args∧laidMetH Tryz.prog laidL w)∧sizedMet enc Tryz.prog fn (OpenSpec.ofChange s) false w args) (s.post enc Tryz.prog fn false true false false):=by
 refine returnsInHanded_of_calls (C:=Tryz.checked) own_knob started noInit
  (ChangeSpec.witness_shaped (enc:=enc) (C:=Tryz.checked) (os:=os) (X:=fun w _=>laidMetH Tryz.prog laidL w) false (World.laidAll Tryz.prog os laidL) args0 8 (World.laidAll_os _ _ _) (laid_shaped os args0) hok hpre hsz (laid_met os args0)) ?_
 intro w tape i _ shape _ fits pre _
 obtain ⟨_,_,_,fn',h1,_,_,_,_,vals⟩:=fits
 cases hfn.symm.trans h1
 have whole:=pre.1.1
 obtain ⟨ds,gs,before,hw,_⟩:=whole
 have env:Env (w.forCall tape i):=env_of (pre.1.2.of_heap (by rfl)) shape
 have:=walk (w.forCall tape i) w.heap.size i.args ds gs before vals (DataW.Whole.of_heap (w':=w.forCall tape i) (by rfl) hw) env
 exact this.mono fun e W' ⟨v,he,hp⟩=>by rw [he];exact ChangeSpec.post_blind hp
end Go.Proofs.YtcnebdjhhfnmoaaGreatDoor
