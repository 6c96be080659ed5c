/- A rule's conditions that have tQ be asked: as lists; what the two maps hold; conditions as keys. -/
import Derived.Test.YtcnebdjhhfnmoaaGreatDoorL14
import Derived.Test.YtcnebdjhhfnmoaaGreatDoorL01
import Derived.DeepKeys4
import Derived.Maps.OwnSet
import Derived.Maps.OwnOps
import Derived.Maps.Views
set_option maxHeartbeats 32000000
set_option maxRecDepth 100000
namespace Go.Proofs.YtcnebdjhhfnmoaaGreatDoor.Ir
open Go.RowKit Go.Maps Go.WideMaps Go.WideElems Go.ChangeMaps
deriving instance DecidableEq for CondM
def neverB (c:CondM):Bool:=decide (c.op=3∧c.val=0∨c.op=5∧c.val=18446744073709551615)
def alwaysB (c:CondM):Bool:=decide (0≤c.arg∧c.arg≤5∧(c.op=6∧c.val=0∨c.op=4∧c.val=18446744073709551615))
def needF:List (Int×Nat)→List CondM→List CondM→Option (List CondM)
 | _,left,[]=>some left
 | E,left,c::r=>
  if neverB c then none
  else if c.op=1 then (if (c.arg,c.val)∈E∨∀e∈E,e.1≠c.arg then needF (E++[(c.arg,c.val)]) (if c∈left∨alwaysB c=true then left else left++[c]) r else none)
  else needF E (if c∈left∨alwaysB c=true then left else left++[c]) r
def Fun (E:List (Int×Nat)):Prop:=∀p∈E,∀q∈E,p.1=q.1→p.2=q.2
theorem Fun.snoc {E:List (Int×Nat)}{a:Int}{v:Nat}(h:Fun E)(hc:(a,v)∈E∨∀e∈E,e.1≠a):Fun (E++[(a,v)]):=fun p hp q hq e=>by
 rcases List.mem_append.1 hp with hp|hp<;>rcases List.mem_append.1 hq with hq|hq
 ·exact h p hp q hq e
 ·obtain rfl:=List.mem_singleton.1 hq
  rcases hc with hc|hc
  ·exact h p hp _ hc e
  ·exact absurd e (hc p hp)
 ·obtain rfl:=List.mem_singleton.1 hp
  rcases hc with hc|hc
  ·exact h _ hc q hq e
  ·exact absurd e.symm (hc q hq)
 ·obtain rfl:=List.mem_singleton.1 hp
  obtain rfl:=List.mem_singleton.1 hq
  rfl
section
variable {H:Type}
def eqD (E:List (Int×Nat)):DataW H:=E.foldl (fun d p=>d.put (.int .i64 p.1) (.lit (.int .u64 (p.2:Nat)))) (.map [])
theorem eqD_snoc (E:List (Int×Nat))(p:Int×Nat):(eqD (E++[p]):DataW H)=(eqD E).put (.int .i64 p.1) (.lit (.int .u64 (p.2:Nat))):=by unfold eqD;rw [List.foldl_append];rfl
theorem eqD_map (E:List (Int×Nat)):IsMap (eqD E:DataW H):=by
 suffices ∀(E:List (Int×Nat)) (D:DataW H),IsMap D→IsMap (E.foldl (fun d p=>d.put (.int .i64 p.1) (.lit (.int .u64 (p.2:Nat)))) D) from this E _ ⟨[],rfl⟩
 intro E
 induction E with
 | nil=>exact fun _ h=>h
 | cons p r ih=>exact fun D h=>ih _ (h.put _ _)
theorem eq_at (E:List (Int×Nat))(hF:Fun E)(a:Int):(∀v,(a,v)∈E→has (eqD E:DataW H) (.int .i64 a)=true∧∀z,(eqD E:DataW H).atKey (.int .i64 a) z=.lit (.int .u64 (v:Nat)))∧((∀e∈E,e.1≠a)→has (eqD E:DataW H) (.int .i64 a)=false):=by
 suffices ∀l:List (Int×Nat),Fun l.reverse→(∀v,(a,v)∈l.reverse→has (eqD l.reverse:DataW H) (.int .i64 a)=true∧∀z,(eqD l.reverse:DataW H).atKey (.int .i64 a) z=.lit (.int .u64 (v:Nat)))∧((∀e∈l.reverse,e.1≠a)→has (eqD l.reverse:DataW H) (.int .i64 a)=false) by
  have:=this E.reverse (by rwa [List.reverse_reverse])
  rwa [List.reverse_reverse] at this
 intro l
 induction l with
 | nil=>intro _;exact ⟨fun v h=>by simp at h,fun _=>rfl⟩
 | cons p l ih=>
  intro hF
  rw [List.reverse_cons] at hF ⊢
  have hF':Fun l.reverse:=fun p hp q hq=>hF p (List.mem_append_left _ hp) q (List.mem_append_left _ hq)
  rw [eqD_snoc]
  by_cases e:p.1=a
  ·refine ⟨fun v hv=>?_,fun h=>absurd e (h p (by simp))⟩
   have hv2:v=p.2:=hF _ hv p (by simp) e.symm
   subst e hv2
   exact ⟨has_put_same (eqD_map _) (show WideAt.IsKeyLit (Lit.int .i64 p.1) from trivial) _,fun z=>atKey_put_same (eqD_map _) (show WideAt.IsKeyLit (Lit.int .i64 p.1) from trivial) _ z⟩
  ·have hk:Lit.int .i64 a≠Lit.int .i64 p.1:=fun h=>by injection h with _ h;exact e h.symm
   refine ⟨fun v hv=>?_,fun h=>?_⟩
   ·rcases List.mem_append.1 hv with hv|hv
    ·rw [has_put_other hk]
     refine ⟨((ih hF').1 v hv).1,fun z=>?_⟩
     rw [atKey_put_other hk]
     exact ((ih hF').1 v hv).2 z
    ·obtain rfl:=List.mem_singleton.1 hv
     exact absurd rfl e
   ·rw [has_put_other hk]
    exact (ih hF').2 fun e he=>h e (List.mem_append_left _ he)
def unD (ks:List Lit):DataW H:=ks.foldl (fun d k=>d.put k (.agg [])) (.map [])
theorem unD_snoc (ks:List Lit)(k:Lit):(unD (ks++[k]):DataW H)=(unD ks).put k (.agg []):=by unfold unD;rw [List.foldl_append];rfl
theorem unD_map (ks:List Lit):IsMap (unD ks:DataW H):=by
 suffices ∀(ks:List Lit) (D:DataW H),IsMap D→IsMap (ks.foldl (fun d k=>d.put k (.agg [])) D) from this ks _ ⟨[],rfl⟩
 intro ks
 induction ks with
 | nil=>exact fun _ h=>h
 | cons p r ih=>exact fun D h=>ih _ (h.put _ _)
theorem un_has (ks:List Lit)(hk:∀k∈ks,WideAt.IsKeyLit k)(k:Lit):(k∈ks→has (unD ks:DataW H) k=true)∧(k∉ks→has (unD ks:DataW H) k=false):=by
 suffices ∀l:List Lit,(∀k∈l.reverse,WideAt.IsKeyLit k)→(k∈l.reverse→has (unD l.reverse:DataW H) k=true)∧(k∉l.reverse→has (unD l.reverse:DataW H) k=false) by
  have:=this ks.reverse (by rwa [List.reverse_reverse])
  rwa [List.reverse_reverse] at this
 intro l
 induction l with
 | nil=>intro _;exact ⟨fun h=>by simp at h,fun _=>rfl⟩
 | cons p l ih=>
  intro h
  rw [List.reverse_cons] at h ⊢
  rw [unD_snoc]
  have ih:=ih fun k hk=>h k (List.mem_append_left _ hk)
  by_cases e:k=p
  ·subst e
   exact ⟨fun _=>has_put_same (unD_map _) (h k (by simp)) _,fun hn=>absurd (by simp) hn⟩
  ·rw [has_put_other e]
   refine ⟨fun hm=>ih.1 ?_,fun hn=>ih.2 fun hm=>hn (List.mem_append_left _ hm)⟩
   rcases List.mem_append.1 hm with hm|hm
   ·exact hm
   ·exact absurd (List.mem_singleton.1 hm) e
end
/-! Conditions as keys. -/
theorem laid:laidOutB Tryz.prog=true:=by kernel_rfl
theorem wideC:(match Tryz.prog.underlying 89 with|some (.array _ _)|some (.struct _)=>true|_=>false)=true:=by kernel_rfl
theorem rowC:89<Tryz.prog.types.size:=of_decide_eq_true (by kernel_rfl)
theorem lawC:KeyLaw Tryz.prog 89:=deep_law_laid laid (m:=3) (by omega) rowC (by kernel_rfl) wideC
theorem condKeyed:Keyed Tryz.prog 89:=Keyed.of_law lawC
theorem intKeyed:Keyed Tryz.prog 3:=int_keyed Tryz.underlying3
noncomputable def condK (c:CondM):Lit:=(keyOf Tryz.prog 89 (.agg c.cells.toArray)).getD .nil
theorem wf1 {a:Int}(h1:-9223372036854775808≤a)(h2:a≤9223372036854775807):(Lit.int .i64 a).wf=true:=by
 show (decide ((-9223372036854775808:Int)≤a)&&decide (a≤(9223372036854775807:Int)))=true
 rw [decide_eq_true (by omega),decide_eq_true (by omega)];rfl
theorem wf2 {o:Nat}(h:o<256):(Lit.int .u8 (o:Int)).wf=true:=by
 show (decide ((0:Int)≤(o:Int))&&decide ((o:Int)≤(255:Int)))=true
 rw [decide_eq_true (by omega),decide_eq_true (by omega)];rfl
theorem wf3 {m:Nat}(h:m<18446744073709551616):(Lit.int .u64 (m:Int)).wf=true:=by
 show (decide ((0:Int)≤(m:Int))&&decide ((m:Int)≤(18446744073709551615:Int)))=true
 rw [decide_eq_true (by omega),decide_eq_true (by omega)];rfl
theorem cellsC:Tryz.prog.cellsOf 89=4:=by kernel_rfl
theorem cellsI:Tryz.prog.cellsOf 3=1:=by kernel_rfl
theorem cellsO:Tryz.prog.cellsOf 87=1:=by kernel_rfl
theorem cellsU:Tryz.prog.cellsOf 57=1:=by kernel_rfl
theorem keyC:Tryz.prog.keyType 89=true:=by kernel_rfl
theorem keyLitsC (n:Nat)(a o m v:Int)(w1:(Lit.int .i64 a).wf=true)(w2:(Lit.int .u8 o).wf=true)(w3:(Lit.int .u64 m).wf=true)(w4:(Lit.int .u64 v).wf=true) :
  Tryz.prog.keyLits (n+2) 89 [.int .i64 a,.int .u8 o,.int .u64 m,.int .u64 v]=some [.int .i64 a,.int .u8 o,.int .u64 m,.int .u64 v]:=by
 simp [Program.keyLits,Tryz.underlying89,Tryz.underlying3,Tryz.underlying87,Tryz.underlying57,cellsC,cellsI,cellsO,cellsU,w1,w2,w3,w4]
theorem keyOfC (a o m v:Int)(w1:(Lit.int .i64 a).wf=true)(w2:(Lit.int .u8 o).wf=true)(w3:(Lit.int .u64 m).wf=true)(w4:(Lit.int .u64 v).wf=true) :
  ∃k,keyOf Tryz.prog 89 (.agg #[.int .i64 a,.int .u8 o,.int .u64 m,.int .u64 v])=some k:=by
 have h:=keyLitsC
 have hF:(Value.agg #[.int .i64 a,.int .u8 o,.int .u64 m,.int .u64 v]).formed Tryz.prog 89=true:=by
  simp only [Value.formed,Tryz.underlying89,cellsC]
  rfl
 obtain ⟨n,hn⟩:∃n,Tryz.prog.types.size+1=n+2:=⟨Tryz.prog.types.size-1,by have:=rowC;omega⟩
 have hV:(Value.agg #[.int .i64 a,.int .u8 o,.int .u64 m,.int .u64 v]).cells.toList=[.int .i64 a,.int .u8 o,.int .u64 m,.int .u64 v]:=rfl
 unfold keyOf
 rw [Tryz.underlying89,hn]
 simp only [keyC,hF,hV,Bool.and_self,if_true,h n a o m v w1 w2 w3 w4,Option.map_some]
 exact ⟨_,rfl⟩
theorem keyCond {c:CondM}(h:c.ok):keyOf Tryz.prog 89 (.agg c.cells.toArray)=some (condK c):=by
 obtain ⟨h1,h2,h3,h4,h5⟩:=h
 obtain ⟨k,hk⟩:=keyOfC c.arg c.op c.mask c.val (wf1 h1 h2) (wf2 h3) (wf3 h4) (wf3 h5)
 have hk2:keyOf Tryz.prog 89 (.agg c.cells.toArray)=some k:=hk
 unfold condK
 rw [hk2];rfl
theorem condK_inj {c d:CondM}(hc:c.ok)(hd:d.ok)(h:condK c=condK d):c=d:=by
 have h1:=keyCond hc
 rw [h] at h1
 have h2:=lawC.inj h1 (keyCond hd)
 obtain ⟨a,o,m,v⟩:=c
 obtain ⟨a',o',m',v'⟩:=d
 simp [CondM.cells] at h2
 obtain ⟨e1,e2,e3,e4⟩:=h2
 simp only [CondM.mk.injEq]
 omega
theorem wpList_lookup_ok {H:Type}{P:Program}(w:World){ops:Array Oper}{rest:List Oper}{o:Oper}{a:Act}{Q:Exit→Act→World→Prop}
  (hg:o.guard=none) (m x:Operand) (t:TypeId) (hop:o.op=Op.lookup t m x true)
  (k e:TypeId) (K:Keyed P k) (ht:P.underlying t=some (.map k e)) (R:Value→Option (DataW H×List MemPlace)) {z:Value} (hz:(zeroValue e).run P w=.ok z w) {zd:DataW H} {zp:List MemPlace} (hzd:R z=some (zd,zp)) (b n:Nat) (D:DataW H)
  (hm:a.eval m=.map (some b)) (hown:w.ownsMap P k R b n D) (key:Value) (kl:Lit) (hx:a.eval x=key) (hkey:keyOf P k key=some kl) (bb:Bool) (hb:has D kl=bb)
  (hK:∀v ps,R v=some (D.atKey kl zd,ps)→wpList P ops Q rest (a.put o.dst (.tuple #[v,.bool bb])) w) :
  wpList P ops Q (o::rest) a w:=by
 refine wpList_plain hg fun K' hK'=>?_
 obtain ⟨v,ps,hrun,hat⟩:=hown.look_ok K ht hz hzd hkey
 rw [hb] at hrun
 unfold Oper.wp
 simp [execOp,hop,hm,hx,hrun,Result.andThen]
 exact hK' _ _ (hK v ps hat)
end Go.Proofs.YtcnebdjhhfnmoaaGreatDoor.Ir
