/- What a policy says of a call, by lists alone: which conditions hold, which rules speak of it, which of them counts. -/
import Derived.Test.YtcnebdjhhfnmoaaGreatDoorL03
import Derived.Test.YtcnebdjhhfnmoaaGreatDoorL16
import Derived.Test.YtcnebdjhhfnmoaaGreatDoorL19
import Derived.Outline
import Derived.Test.YtcnebdjhhfnmoaaGreatDoorL18
import Derived.Test.YtcnebdjhhfnmoaaGreatDoorL21
import Derived.Test.YtcnebdjhhfnmoaaGreatDoorL01
set_option maxHeartbeats 32000000
set_option maxRecDepth 100000
namespace Go.Proofs.YtcnebdjhhfnmoaaGreatDoor.Me
structure RcM where
 num:Nat
 arch:Nat
 at_:Nat
 a0:Nat
 a1:Nat
 a2:Nat
 a3:Nat
 a4:Nat
 a5:Nat
def RcM.args (x:RcM):List Nat:=[x.a0,x.a1,x.a2,x.a3,x.a4,x.a5]
def RcM.cells (x:RcM):List Value:=[.int .u32 x.num,.int .u32 x.arch,.int .u64 x.at_,.int .u64 x.a0,.int .u64 x.a1,.int .u64 x.a2,.int .u64 x.a3,.int .u64 x.a4,.int .u64 x.a5]
def RcM.seen (x:RcM):List Value:=[.int .u32 x.num,.int .u32 x.arch,.int .u64 x.a0,.int .u64 x.a1,.int .u64 x.a2,.int .u64 x.a3,.int .u64 x.a4,.int .u64 x.a5]
structure RcM.ok (x:RcM):Prop where
 num:x.num<4294967296
 arch:x.arch<4294967296
 at_:x.at_<18446744073709551616
 a0:x.a0<18446744073709551616
 a1:x.a1<18446744073709551616
 a2:x.a2<18446744073709551616
 a3:x.a3<18446744073709551616
 a4:x.a4<18446744073709551616
 a5:x.a5<18446744073709551616
def RcM.arg (x:RcM)(k:Nat):Nat:=x.args.getD k 0
theorem six {k:Nat}(h:k<6):k=0∨k=1∨k=2∨k=3∨k=4∨k=5:=by omega
theorem RcM.arg_cell (x:RcM){k:Nat}(h:k<6):x.cells[3+k]?=some (.int .u64 (x.arg k)):=by
 rcases six h with rfl|rfl|rfl|rfl|rfl|rfl<;>rfl
theorem RcM.ok.arg {x:RcM}(h:x.ok){k:Nat}(hk:k<6):x.arg k<18446744073709551616:=by
 rcases six hk with rfl|rfl|rfl|rfl|rfl|rfl
 ·exact h.a0
 ·exact h.a1
 ·exact h.a2
 ·exact h.a3
 ·exact h.a4
 ·exact h.a5
def opB (op mask val a:Nat):Bool:=
 if op=1 then decide (a=val) else if op=2 then decide (a≠val) else if op=3 then decide (a<val) else if op=4 then decide (a≤val)
 else if op=5 then decide (val<a) else if op=6 then decide (val≤a) else if op=7 then decide (a&&&mask=val) else false
def holdB (c:CondM)(x:RcM):Bool:=if c.arg<0∨5<c.arg then false else opB c.op c.mask c.val (x.arg c.arg.toNat)
def matB (r:RuleM)(x:RcM):Bool:=decide (r.num=x.num)&&r.conds.all fun c=>holdB c x
def idxL (x:RcM):Nat→List RuleM→List Nat
 | _,[]=>[]
 | i,r::t=>if matB r x then i::idxL x (i+1) t else idxL x (i+1) t
def stepB (x:RcM)(i:Nat)(r:RuleM)(b:Option (Nat×Nat)):Option (Nat×Nat):=
 if matB r x then (match b with|none=>some (i,r.act)|some y=>if Rec.strN y.2<Rec.strN r.act then some (i,r.act) else some y) else b
def bestL (x:RcM):Nat→List RuleM→Option (Nat×Nat)→Option (Nat×Nat)
 | _,[],b=>b
 | i,r::t,b=>bestL x (i+1) t (stepB x i r b)
def bestI:Option (Nat×Nat)→Int
 | none=>-1
 | some y=>y.1
def bestA (d:Nat):Option (Nat×Nat)→Nat
 | none=>d
 | some y=>y.2
def best (p:PolM)(x:RcM):Option (Nat×Nat):=bestL x 0 p.rules none
def BOk (rules:List RuleM)(k:Nat)(b:Option (Nat×Nat)):Prop:=∀y,b=some y→y.1<k∧∃r,rules[y.1]?=some r∧r.act=y.2
theorem BOk.step {rules:List RuleM}{k:Nat}{b:Option (Nat×Nat)}(h:BOk rules k b){r:RuleM}(hr:rules[k]?=some r)(x:RcM):BOk rules (k+1) (stepB x k r b):=by
 intro y hy
 unfold stepB at hy
 split at hy
 ·split at hy
  ·cases hy;exact ⟨by simp,r,hr,rfl⟩
  ·split at hy
   ·cases hy;exact ⟨by simp,r,hr,rfl⟩
   ·cases hy
    obtain ⟨h1,h2⟩:=h y rfl
    exact ⟨by omega,h2⟩
 ·obtain ⟨h1,h2⟩:=h y hy
  exact ⟨by omega,h2⟩
theorem BOk.nil (rules:List RuleM):BOk rules 0 none:=fun y hy=>by cases hy
theorem best_end (x:RcM){rules:List RuleM}{k:Nat}(h:rules.length≤k)(i:Nat)(b:Option (Nat×Nat)):bestL x i (rules.drop k) b=b:=by
 rw [List.drop_eq_nil_of_le h];rfl
theorem best_on (x:RcM){rules:List RuleM}{k:Nat}{r:RuleM}(h:rules[k]?=some r)(b:Option (Nat×Nat)):bestL x k (rules.drop k) b=bestL x (k+1) (rules.drop (k+1)) (stepB x k r b):=by
 obtain ⟨h1,h2⟩:=List.getElem?_eq_some_iff.1 h
 rw [List.drop_eq_getElem_cons h1,h2,bestL]
theorem idx_app (x:RcM):∀(a b:List RuleM) (i:Nat),idxL x i (a++b)=idxL x i a++idxL x (i+a.length) b
 | [],b,i=>by simp [idxL]
 | r::a,b,i=>by
  rw [List.cons_append,idxL,idxL,idx_app x a b (i+1)]
  split<;>simp [Nat.add_comm,Nat.add_left_comm]
theorem idx_take (x:RcM){rules:List RuleM}{k:Nat}{r:RuleM}(h:rules[k]?=some r):idxL x 0 (rules.take (k+1))=idxL x 0 (rules.take k)++(if matB r x then [k] else []):=by
 obtain ⟨h1,h2⟩:=List.getElem?_eq_some_iff.1 h
 rw [List.take_succ_eq_append_getElem h1,h2,idx_app,List.length_take,Nat.min_eq_left (by omega),Nat.zero_add,idxL,idxL]
theorem idx_len (x:RcM):∀(l:List RuleM) (i:Nat),(idxL x i l).length≤l.length
 | [],_=>Nat.le_refl _
 | r::l,i=>by
  have:=idx_len x l (i+1)
  unfold idxL
  split<;>simp<;>omega
def actsB (x:RcM)(l:List RuleM):List Nat:=(l.filter fun r=>matB r x).map RuleM.act
theorem best_acts (x:RcM):∀(l:List RuleM) (i:Nat) (b:Option (Nat×Nat)),(bestL x i l b).map (·.2)=match b.map (·.2) with|none=>(match actsB x l with|[]=>none|a::t=>some (t.foldl Rec.stg a))|some a=>some ((actsB x l).foldl Rec.stg a)
 | [],i,none=>rfl
 | [],i,some b=>rfl
 | r::l,i,b=>by
  rw [bestL,best_acts x l]
  unfold stepB actsB
  cases hm:matB r x with
  | false=>rw [List.filter_cons_of_neg (by simpa using hm)];rfl
  | true=>
   rw [List.filter_cons_of_pos (by simpa using hm)]
   cases b with
   | none=>rfl
   | some y=>
    simp only [if_true,List.map_cons,List.foldl_cons,Option.map_some]
    by_cases h:Rec.strN y.2<Rec.strN r.act
    ·simp [Rec.stg,h]
    ·simp [Rec.stg,h]
def firstS (x:RcM)(s:Nat)(l:List RuleM):Option RuleM:=l.find? fun r=>decide (Rec.strN r.act=s)&&matB r x
theorem first_acts (x:RcM)(s:Nat)(l:List RuleM):(firstS x s l).map RuleM.act=(actsB x l).find? fun a=>decide (Rec.strN a=s):=by
 induction l with
 | nil=>rfl
 | cons r l ih=>
  unfold firstS actsB at *
  cases hm:matB r x with
  | false=>rw [List.filter_cons_of_neg (by simpa using hm),List.find?_cons_of_neg (by simp [hm])];exact ih
  | true=>
   rw [List.filter_cons_of_pos (by simpa using hm),List.map_cons]
   by_cases hs:Rec.strN r.act=s
   ·rw [List.find?_cons_of_pos (by simp [hm,hs]),List.find?_cons_of_pos (by simp [hs])];rfl
   ·rw [List.find?_cons_of_neg (by simp [hs]),List.find?_cons_of_neg (by simp [hs])];exact ih
theorem find_first {l:List Nat}(hn:l≠[]):l.find? (fun a=>decide (Rec.strN a=Rec.strN (Rec.foldS l)))=some (Rec.foldS l):=by
 obtain ⟨j,h1,h2,_⟩:=Rec.foldS_first l hn
 rw [List.find?_eq_some_iff_append]
 refine ⟨by simp,l.take j,l.drop (j+1),?_,fun a ha=>?_⟩
 ·obtain ⟨h3,h4⟩:=List.getElem?_eq_some_iff.1 h1
  rw [←h4];simp
 ·obtain ⟨i,hi⟩:=List.getElem?_of_mem ha
  obtain ⟨h3,h4⟩:=List.getElem?_eq_some_iff.1 hi
  rw [List.length_take] at h3
  rw [List.getElem?_take] at hi
  split at hi
  ·have:=h2 i a (by omega) hi
   simp;omega
  ·cases hi
theorem find_above {l:List Nat}(hn:l≠[]){s:Nat}(h:Rec.strN (Rec.foldS l)<s):l.find? (fun a=>decide (Rec.strN a=s))=none:=by
 obtain ⟨j,_,_,h3⟩:=Rec.foldS_first l hn
 rw [List.find?_eq_none]
 intro a ha
 have:=h3 a ha
 simp;omega
theorem first_above (x:RcM)(p:PolM){s:Nat}(h:∀a,bestL x 0 p.rules none=some a→Rec.strN a.2<s):firstS x s p.rules=none:=by
 have h1:=first_acts x s p.rules
 have h2:=best_acts x p.rules 0 none
 cases ha:actsB x p.rules with
 | nil=>rw [ha] at h1;simpa using h1
 | cons a t=>
  rw [ha] at h1 h2
  cases hb:bestL x 0 p.rules none with
  | none=>rw [hb] at h2;cases h2
  | some y=>
   rw [hb] at h2
   have h3:y.2=Rec.foldS (a::t):=Option.some.inj h2
   rw [find_above (l:=a::t) (by simp) (by rw [←h3];exact h y hb)] at h1
   simpa using h1
theorem first_at (x:RcM)(p:PolM){y:Nat×Nat}(h:bestL x 0 p.rules none=some y):∃r,firstS x (Rec.strN y.2) p.rules=some r∧r.act=y.2:=by
 have h1:=first_acts x (Rec.strN y.2) p.rules
 have h2:=best_acts x p.rules 0 none
 rw [h] at h2
 cases ha:actsB x p.rules with
 | nil=>rw [ha] at h2;cases h2
 | cons a t=>
  rw [ha] at h1 h2
  have h3:y.2=Rec.foldS (a::t):=Option.some.inj h2
  rw [h3,find_first (l:=a::t) (by simp)] at h1
  rw [←h3] at h1
  cases hf:firstS x (Rec.strN y.2) p.rules with
  | none=>rw [hf] at h1;cases h1
  | some r=>rw [hf] at h1;exact ⟨r,rfl,Option.some.inj h1⟩
end Go.Proofs.YtcnebdjhhfnmoaaGreatDoor.Me
namespace Go.Proofs.YtcnebdjhhfnmoaaGreatDoor.Me
open Go.RowKit Go.WideElems
def RetB (b:Bool)(w:World)(e:Ending)(w':World):Prop:=e=.returned (.bool b)∧Below w.heap.size w w'
theorem retb {b k:Bool}{w w':World}{e:Ending}(h:b=k)(he:e=.returned (.bool k))(hb:Below w.heap.size w w'):RetB b w e w':=by subst h;exact ⟨he,hb⟩
theorem hold_out {c:CondM}{x:RcM}(h:c.arg<0∨5<c.arg):holdB c x=false:=by unfold holdB;rw [if_pos h]
theorem hold_in {arg:Int}{op mask val k:Nat}{x:RcM}(he:arg=k)(h:k<6):holdB ⟨arg,op,mask,val⟩ x=opB op mask val (x.arg k):=by
 subst he
 unfold holdB
 rw [if_neg (by simp only;omega)]
 rfl
theorem op_other {op mask val a:Nat}(h:op<1∨7<op):opB op mask val a=false:=by
 unfold opB
 rw [if_neg (by omega),if_neg (by omega),if_neg (by omega),if_neg (by omega),if_neg (by omega),if_neg (by omega),if_neg (by omega)]
theorem two_new (w:World)(a b:Array Value)(T U:TypeId){la lb:List Value}(ha:a=la.toArray)(hb:b=lb.toArray) :
  Bk ((w.alloc (.cells a T)).alloc (.cells b U)) w.heap.size T la∧Bk ((w.alloc (.cells a T)).alloc (.cells b U)) (w.heap.size+1) U lb∧Below w.heap.size w ((w.alloc (.cells a T)).alloc (.cells b U)):=by
 have h1:=Bk.new w T a ha
 have h2:=Bk.new (w.alloc (.cells a T)) U b hb
 have e:(w.alloc (.cells a T)).heap.size=w.heap.size+1:=by simp
 rw [e] at h2
 exact ⟨h1.kept (oneb _ _),h2,(oneb w _).trans ((oneb _ _).mono (by rw [e];omega))⟩
theorem beq_t {a b:Nat}(h:a=b):((a:Int)==(b:Int))=true:=by subst h;simp
theorem beq_f {a b:Nat}(h:a≠b):((a:Int)==(b:Int))=false:=by rw [beq_eq_false_iff_ne];omega
theorem bne_t {a b:Nat}(h:a≠b):((a:Int) != (b:Int))=true:=by rw [bne_iff_ne];omega
theorem bne_f {a b:Nat}(h:a=b):((a:Int) != (b:Int))=false:=by subst h;simp
theorem holds_any (arg:Int)(op mask val:Nat)(x:RcM)(w:World)(hop:op<256)(hm:mask<18446744073709551616)(hx:x.ok) :
  Calls Tryz.prog 92 #[.agg #[.int .i64 arg,.int .u8 op,.int .u64 mask,.int .u64 val],.agg #[.int .u32 x.num,.int .u32 x.arch,.int .u64 x.at_,.int .u64 x.a0,.int .u64 x.a1,.int .u64 x.a2,.int .u64 x.a3,.int .u64 x.a4,.int .u64 x.a5]] w (RetB (holdB ⟨arg,op,mask,val⟩ x) w):=by
 obtain ⟨hk1,hk2,hb⟩:=two_new w #[.int .i64 arg,.int .u8 op,.int .u64 mask,.int .u64 val] #[.int .u32 x.num,.int .u32 x.arch,.int .u64 x.at_,.int .u64 x.a0,.int .u64 x.a1,.int .u64 x.a2,.int .u64 x.a3,.int .u64 x.a4,.int .u64 x.a5] 89 60 (la:=[.int .i64 arg,.int .u8 op,.int .u64 mask,.int .u64 val]) (lb:=x.cells) rfl rfl
 go_enter Tryz.func92,Tryz.ntmps92
 go_upto_region 1 with fail
 generalize (w.alloc _).alloc _=w2 at hk1 hk2 hb ⊢
 have HB:=qd hb
 have q0:=hk1.cell 0 rfl
 have q1:=hk1.cell 1 rfl
 have q2:=hk1.cell 2 rfl
 have q3:=hk1.cell 3 rfl
 have HK2:=qd hk2
 clear hk1 hk2 hb
 by_cases h1:arg<0
 ·have HV:=qd (hold_out (c:=⟨arg,op,mask,val⟩) (x:=x) (.inl h1))
  have d1:decide (arg<0)=true:=decide_eq_true h1
  clear hx
  go_wp2_with fail
  go_ret
  exact retb HV.out rfl HB.out
 by_cases h2:5<arg
 ·have HV:=qd (hold_out (c:=⟨arg,op,mask,val⟩) (x:=x) (.inr h2))
  have d1:decide (arg<0)=false:=decide_eq_false h1
  have h6:6≤arg:=by omega
  have d2:decide ((6:Int)≤arg)=true:=decide_eq_true h6
  have d3:decide ((5:Int)<arg)=true:=decide_eq_true h2
  clear hx
  go_wp2_with fail
  go_ret
  exact retb HV.out rfl HB.out
 obtain ⟨k,rfl⟩:∃k:Nat,arg=k:=⟨arg.toNat,by omega⟩
 have hk:k<6:=by omega
 have HV0:=qd (hold_in (op:=op) (mask:=mask) (val:=val) (x:=x) (arg:=(k:Int)) rfl hk)
 obtain ⟨v,hve⟩:∃v,v=x.arg k:=⟨_,rfl⟩
 have hv2:v<18446744073709551616:=by rw [hve];exact hx.arg hk
 have qk:=HK2.out.cell (3+k) (RcM.arg_cell x hk)
 rw [←hve] at qk
 have HVE:=qd hve
 have d1:decide ((k:Int)<0)=false:=decide_eq_false h1
 have h6:¬(6:Int)≤(k:Int):=by omega
 have d2:decide ((6:Int)≤(k:Int))=false:=decide_eq_false h6
 have h5:¬(5:Int)<(k:Int):=by omega
 have d3:decide ((5:Int)<(k:Int))=false:=decide_eq_false h5
 have k0:(0:Int)≤(k:Int):=by omega
 have k6:(k:Int)<6:=by omega
 clear hve hx h2
 by_cases o1:op=1
 ·subst o1
  by_cases hq:v=val
  ·have HV:=qd (show holdB ⟨(k:Int),1,mask,val⟩ x=true by rw [HV0.out,←HVE.out];show decide (v=val)=true;simp [hq])
   have e1:((v:Int)==(val:Int))=true:=beq_t hq
   clear hq h1 hop hm hv2
   go_wp2_with fail
   go_ret
   exact retb HV.out rfl HB.out
  ·have HV:=qd (show holdB ⟨(k:Int),1,mask,val⟩ x=false by rw [HV0.out,←HVE.out];show decide (v=val)=false;simp [hq])
   have e1:((v:Int)==(val:Int))=false:=beq_f hq
   clear hq h1 hop hm hv2
   go_wp2_with fail
   go_ret
   exact retb HV.out rfl HB.out
 by_cases o2:op=2
 ·subst o2
  by_cases hq:v=val
  ·have HV:=qd (show holdB ⟨(k:Int),2,mask,val⟩ x=false by rw [HV0.out,←HVE.out];show decide (v≠val)=false;simp [hq])
   have e1:((v:Int) != (val:Int))=false:=bne_f hq
   clear hq h1 hop hm hv2
   go_wp2_with fail
   go_ret
   exact retb HV.out rfl HB.out
  ·have HV:=qd (show holdB ⟨(k:Int),2,mask,val⟩ x=true by rw [HV0.out,←HVE.out];show decide (v≠val)=true;simp [hq])
   have e1:((v:Int) != (val:Int))=true:=bne_t hq
   clear hq h1 hop hm hv2
   go_wp2_with fail
   go_ret
   exact retb HV.out rfl HB.out
 by_cases o3:op=3
 ·subst o3
  by_cases hq:v<val
  ·have HV:=qd (show holdB ⟨(k:Int),3,mask,val⟩ x=true by rw [HV0.out,←HVE.out];show decide (v<val)=true;simp [hq])
   have e1:(v:Int)<(val:Int):=by omega
   have e2:decide ((v:Int)<(val:Int))=true:=decide_eq_true e1
   have e3:decide (v<val)=true:=decide_eq_true hq
   clear hq h1 hop hm hv2
   go_wp2_with fail
   go_ret
   exact retb HV.out rfl HB.out
  ·have HV:=qd (show holdB ⟨(k:Int),3,mask,val⟩ x=false by rw [HV0.out,←HVE.out];show decide (v<val)=false;simp [hq])
   have e1:¬(v:Int)<(val:Int):=by omega
   have e2:decide ((v:Int)<(val:Int))=false:=decide_eq_false e1
   have e3:decide (v<val)=false:=decide_eq_false hq
   clear hq h1 hop hm hv2
   go_wp2_with fail
   go_ret
   exact retb HV.out rfl HB.out
 by_cases o4:op=4
 ·subst o4
  by_cases hq:v≤val
  ·have HV:=qd (show holdB ⟨(k:Int),4,mask,val⟩ x=true by rw [HV0.out,←HVE.out];show decide (v≤val)=true;simp;omega)
   have e1:(v:Int)≤(val:Int):=by omega
   have e2:decide ((v:Int)≤(val:Int))=true:=decide_eq_true e1
   have e3:decide (v≤val)=true:=decide_eq_true hq
   clear hq h1 hop hm hv2
   go_wp2_with fail
   go_ret
   exact retb HV.out rfl HB.out
  ·have HV:=qd (show holdB ⟨(k:Int),4,mask,val⟩ x=false by rw [HV0.out,←HVE.out];show decide (v≤val)=false;simp;omega)
   have e1:¬(v:Int)≤(val:Int):=by omega
   have e2:decide ((v:Int)≤(val:Int))=false:=decide_eq_false e1
   have e3:decide (v≤val)=false:=decide_eq_false hq
   clear hq h1 hop hm hv2
   go_wp2_with fail
   go_ret
   exact retb HV.out rfl HB.out
 by_cases o5:op=5
 ·subst o5
  by_cases hq:val<v
  ·have HV:=qd (show holdB ⟨(k:Int),5,mask,val⟩ x=true by rw [HV0.out,←HVE.out];show decide (val<v)=true;simp [hq])
   have e1:(val:Int)<(v:Int):=by omega
   have e2:decide ((val:Int)<(v:Int))=true:=decide_eq_true e1
   have e3:decide (val<v)=true:=decide_eq_true hq
   clear hq h1 hop hm hv2
   go_wp2_with fail
   go_ret
   exact retb HV.out rfl HB.out
  ·have HV:=qd (show holdB ⟨(k:Int),5,mask,val⟩ x=false by rw [HV0.out,←HVE.out];show decide (val<v)=false;simp [hq])
   have e1:¬(val:Int)<(v:Int):=by omega
   have e2:decide ((val:Int)<(v:Int))=false:=decide_eq_false e1
   have e3:decide (val<v)=false:=decide_eq_false hq
   clear hq h1 hop hm hv2
   go_wp2_with fail
   go_ret
   exact retb HV.out rfl HB.out
 by_cases o6:op=6
 ·subst o6
  by_cases hq:val≤v
  ·have HV:=qd (show holdB ⟨(k:Int),6,mask,val⟩ x=true by rw [HV0.out,←HVE.out];show decide (val≤v)=true;simp;omega)
   have e1:(val:Int)≤(v:Int):=by omega
   have e2:decide ((val:Int)≤(v:Int))=true:=decide_eq_true e1
   have e3:decide (val≤v)=true:=decide_eq_true hq
   clear hq h1 hop hm hv2
   go_wp2_with fail
   go_ret
   exact retb HV.out rfl HB.out
  ·have HV:=qd (show holdB ⟨(k:Int),6,mask,val⟩ x=false by rw [HV0.out,←HVE.out];show decide (val≤v)=false;simp;omega)
   have e1:¬(val:Int)≤(v:Int):=by omega
   have e2:decide ((val:Int)≤(v:Int))=false:=decide_eq_false e1
   have e3:decide (val≤v)=false:=decide_eq_false hq
   clear hq h1 hop hm hv2
   go_wp2_with fail
   go_ret
   exact retb HV.out rfl HB.out
 by_cases o7:op=7
 ·subst o7
  obtain ⟨z,hz⟩:∃z,z=v&&&mask:=⟨_,rfl⟩
  have hb7:bits .and .u64 (v:Int) (mask:Int)=(z:Int):=by rw [u64_and_nat _ _ hv2 hm,hz]
  by_cases hq:v&&&mask=val
  ·have HV:=qd (show holdB ⟨(k:Int),7,mask,val⟩ x=true by rw [HV0.out,←HVE.out];show decide (v&&&mask=val)=true;simp [hq])
   have e1:((z:Int)==(val:Int))=true:=beq_t (by omega)
   have HZ:=qd hz
   clear hz
   clear hq h1 hop hm hv2
   go_wp2_with fail
   go_ret
   exact retb HV.out rfl HB.out
  ·have HV:=qd (show holdB ⟨(k:Int),7,mask,val⟩ x=false by rw [HV0.out,←HVE.out];show decide (v&&&mask=val)=false;simp [hq])
   have e1:((z:Int)==(val:Int))=false:=beq_f (by omega)
   have HZ:=qd hz
   clear hz
   clear hq h1 hop hm hv2
   go_wp2_with fail
   go_ret
   exact retb HV.out rfl HB.out
 have HV:=qd (show holdB ⟨(k:Int),op,mask,val⟩ x=false by rw [HV0.out];exact op_other (by omega))
 have b1:((op:Int)==1)=false:=by rw [beq_eq_false_iff_ne];omega
 have b2:((op:Int)==2)=false:=by rw [beq_eq_false_iff_ne];omega
 have b3:((op:Int)==3)=false:=by rw [beq_eq_false_iff_ne];omega
 have b4:((op:Int)==4)=false:=by rw [beq_eq_false_iff_ne];omega
 have b5:((op:Int)==5)=false:=by rw [beq_eq_false_iff_ne];omega
 have b6:((op:Int)==6)=false:=by rw [beq_eq_false_iff_ne];omega
 have b7:((op:Int)==7)=false:=by rw [beq_eq_false_iff_ne];omega
 clear o1 o2 o3 o4 o5 o6 o7 h1 hop hm hv2
 go_wp2_with fail
 go_ret
 exact retb HV.out rfl HB.out
end Go.Proofs.YtcnebdjhhfnmoaaGreatDoor.Me
namespace Go.Proofs.YtcnebdjhhfnmoaaGreatDoor.Me
open Go.RowKit Go.WideElems
theorem mat_num {num act:Nat}{cs:List CondM}{x:RcM}(h:num≠x.num):matB ⟨num,act,cs⟩ x=false:=by
 unfold matB;rw [decide_eq_false h];rfl
theorem mat_all {num act:Nat}{cs:List CondM}{x:RcM}(h:num=x.num):matB ⟨num,act,cs⟩ x=cs.all fun c=>holdB c x:=by
 unfold matB;rw [decide_eq_true h,Bool.true_and]
theorem all_end {cs:List CondM}{x:RcM}{k:Nat}(hk:cs.length≤k)(h:∀c∈cs.take k,holdB c x=true):(cs.all fun c=>holdB c x)=true:=by
 rw [List.take_of_length_le hk] at h
 exact List.all_eq_true.2 h
theorem all_bad {cs:List CondM}{x:RcM}{k:Nat}{c:CondM}(h:cs[k]?=some c)(hb:holdB c x=false):(cs.all fun c=>holdB c x)=false:=by
 rw [List.all_eq_false]
 exact ⟨c,List.mem_of_getElem? h,by simp [hb]⟩
theorem all_on {cs:List CondM}{x:RcM}{k:Nat}{c:CondM}(h:∀c∈cs.take k,holdB c x=true)(hc:cs[k]?=some c)(hb:holdB c x=true):∀c∈cs.take (k+1),holdB c x=true:=by
 intro y hy
 rw [List.take_add_one,hc] at hy
 rcases List.mem_append.1 hy with hy|hy
 ·exact h y hy
 ·simp only [Option.toList_some,List.mem_singleton] at hy;subst hy;exact hb
theorem matches_any (num act:Nat)(cs:List CondM)(A:Option Addr)(n cap:Nat)(x:RcM)(w:World)(hcs:∀c∈cs,c.ok)(hn:cs.length=n)(hl:n≤maxLen)(hR:Rd w 4 n A (cs.flatMap CondM.cells))(hx:x.ok) :
  Calls Tryz.prog 89 #[.agg #[.int .u32 num,.int .u32 act,.slice A n cap],.agg #[.int .u32 x.num,.int .u32 x.arch,.int .u64 x.at_,.int .u64 x.a0,.int .u64 x.a1,.int .u64 x.a2,.int .u64 x.a3,.int .u64 x.a4,.int .u64 x.a5]] w (RetB (matB ⟨num,act,cs⟩ x) w):=by
 have hl':n≤9223372036854775807:=hl
 obtain ⟨hk1,hk2,hb⟩:=two_new w #[.int .u32 num,.int .u32 act,.slice A n cap] #[.int .u32 x.num,.int .u32 x.arch,.int .u64 x.at_,.int .u64 x.a0,.int .u64 x.a1,.int .u64 x.a2,.int .u64 x.a3,.int .u64 x.a4,.int .u64 x.a5] 86 60 (la:=[.int .u32 num,.int .u32 act,.slice A n cap]) (lb:=x.cells) rfl rfl
 have HR:=qd (hR.below hb)
 have HC:=qd hcs
 have HN:=qd hn
 clear hR hcs hn hl
 go_enter Tryz.func89,Tryz.ntmps89
 go_upto_region 1 with fail
 generalize (w.alloc _).alloc _=w2 at hk1 hk2 hb HR ⊢
 have HB0:=qd hb
 have q0:=hk1.cell 0 rfl
 have q2:=hk1.cell 2 rfl
 have y0:=hk2.cell 0 rfl
 have hlt1:=hk1.lt
 have hlt2:=hk2.lt
 have HK1:=qd hk1
 have HK2:=qd hk2
 clear hk1 hk2 hb
 by_cases hnum:num=x.num
 ·have e1:((num:Int) != (x.num:Int))=false:=bne_f hnum
  have HV0:=qd (mat_all (act:=act) (cs:=cs) hnum)
  have HX:=qd hx
  clear hnum hx
  go_wp2_with fail
  clear e1 q0 q2 y0
  go_loopw [15] (fun iv wr=>∃k:Nat,iv=.int .i64 k∧k≤n∧Hid (∀c∈cs.take k,holdB c x=true)∧Hid (Below w2.heap.size w2 wr)) (fun iv _=>n-(intOf iv).toNat)
  case atStart=>exact ⟨0,rfl,Nat.zero_le _,qd (by simp),Below.refl _ _⟩
  case round=>
   obtain ⟨k,rfl,hk,HF,HB⟩:=hrel
   have hs:=HB.out.size
   have hlw1:=Nat.lt_of_lt_of_le hlt1 hs
   have hlw2:=Nat.lt_of_lt_of_le hlt2 hs
   clear hs
   have q2:=(HK1.out.kept HB.out).cell 2 rfl
   have y0:=(HK2.out.kept HB.out).cell 0 rfl
   have y1:=(HK2.out.kept HB.out).cell 1 rfl
   have y2:=(HK2.out.kept HB.out).cell 2 rfl
   have y3:=(HK2.out.kept HB.out).cell 3 rfl
   have y4:=(HK2.out.kept HB.out).cell 4 rfl
   have y5:=(HK2.out.kept HB.out).cell 5 rfl
   have y6:=(HK2.out.kept HB.out).cell 6 rfl
   have y7:=(HK2.out.kept HB.out).cell 7 rfl
   have y8:=(HK2.out.kept HB.out).cell 8 rfl
   by_cases hlt:k<n
   ·obtain ⟨c,hc⟩:∃c,cs[k]?=some c:=⟨_,List.getElem?_eq_getElem (by have:=HN.out;omega)⟩
    obtain ⟨b,o,hA,hbl,hcell⟩:=(HR.out.below HB.out).one (fun _=>rfl) (by omega) (by omega)
    subst hA
    obtain ⟨c0,c1,c2,c3⟩:=cond_cells hcell hc
    have hcok:=HC.out c (List.mem_of_getElem? hc)
    have hck:=qd (fun W=>holds_any c.arg c.op c.mask c.val x W hcok.2.2.1 hcok.2.2.2.1 HX.out)
    have HXc:=qd hc
    clear hcell hc hcok
    go_wp2_with fail
    refine (hck.out _).mono ?_
    clear hck c0 c1 c2 c3
    rintro e w3 ⟨rfl,hb3⟩
    have HB3:=qd ((HB.out.alloc HB.out.size (.cells #[.int .i64 c.arg,.int .u8 c.op,.int .u64 c.mask,.int .u64 c.val] 89)).trans (hb3.mono (by have:=HB.out.size;simp;omega)))
    clear hb3
    have hce:(⟨c.arg,c.op,c.mask,c.val⟩:CondM)=c:=rfl
    rw [hce]
    clear hce y0 y1 y2 y3 y4 y5 y6 y7 y8 q2
    cases hz:holdB c x with
    | true=>
     have HF2:=qd (all_on HF.out HXc.out hz)
     clear hz
     go_wp2_with fail
     go_roundw
     case rel=>exact ⟨k+1,by go_num,by omega,HF2,HB3⟩
     case measure=>simp [intOf];omega
    | false=>
     have HV:=qd (HV0.out.trans (all_bad HXc.out hz))
     clear hz
     go_wp2_with fail
     go_ret
     exact retb HV.out rfl (HB0.out.trans (HB3.out.mono HB0.out.size))
   ·have HV:=qd (HV0.out.trans (all_end (by have:=HN.out;omega) HF.out))
    go_wp2_with fail
    go_ret
    exact retb HV.out rfl (HB0.out.trans (HB.out.mono HB0.out.size))
 ·have e1:((num:Int) != (x.num:Int))=true:=bne_t hnum
  have HV:=qd (mat_num (act:=act) (cs:=cs) hnum)
  clear hnum hx
  go_wp2_with fail
  go_ret
  exact retb HV.out rfl HB0.out
end Go.Proofs.YtcnebdjhhfnmoaaGreatDoor.Me
namespace Go.Proofs.YtcnebdjhhfnmoaaGreatDoor.Ir
open Go.RowKit Go.Maps Go.WideMaps Go.WideElems Go.ChangeMaps
theorem bel_grow (w:World)(os:Array Obj):Below w.heap.size w (Sort.grow w os):=⟨rfl,rfl,rfl,by rw [Sort.size_grow];omega,fun k hk=>Sort.heap_grow_old _ _ hk⟩
section
variable {w w':World} {P:Program} {T:TypeId} {R:Value→Option (DataW Unit×List MemPlace)} {b n:Nat} {D:DataW Unit}
theorem om_lt (h:w.ownsMap P T R b n D):b<w.heap.size:=by obtain ⟨es,c,h1,_⟩:=h;exact (Array.getElem?_eq_some_iff.1 h1).1
theorem om_block (h:w.ownsMap P T R b n D)(hb:w'.heap[b]?=w.heap[b]?):w'.ownsMap P T R b n D:=by obtain ⟨es,c,h1,h2⟩:=h;exact ⟨es,c,hb.trans h1,h2⟩
theorem or_block {e:TypeId}{z:Nat}{v:Value}{xs:List Value}{B:Nat}(h:w.ownsRow B e z v n xs)(hb:∀g,B≤g→g<w.heap.size→v.ownBlock=some g→w'.heap[g]?=w.heap[g]?):w'.ownsRow B e z v n xs:=by
 obtain ⟨h1,⟨h2,h3⟩|⟨g,cap,cur,h2,h3,h4,h5⟩⟩:=h
 ·exact ⟨h1,Or.inl ⟨h2,h3⟩⟩
 ·subst h2
  exact ⟨h1,Or.inr ⟨g,cap,cur,rfl,h3,(hb g h3 (Array.getElem?_eq_some_iff.1 h4).1 rfl).trans h4,h5⟩⟩
theorem own_ge {e:TypeId}{z:Nat}{v:Value}{xs:List Value}{B:Nat}(h:w.ownsRow B e z v n xs):∀g,v.ownBlock=some g→B≤g:=by
 intro g hg
 obtain ⟨h1,⟨h2,h3⟩|⟨g',cap,cur,h2,h3,h4,h5⟩⟩:=h
 ·subst h2;cases hg
 ·subst h2;cases hg;exact h3
end
structure NW (w wr:World)(ks:List CondM)(E:List (Int×Nat))(v:Value)(left:List CondM)(i:Nat):Prop where
 bel:Below w.heap.size w wr
 th:wr.ownsMap Tryz.prog 89 unitElem w.heap.size i (unD (ks.map condK):DataW Unit)
 eq:wr.ownsMap Tryz.prog 3 (plainElem Tryz.prog 57) (w.heap.size+1) i (eqD E:DataW Unit)
 row:wr.ownsRow (w.heap.size+2) 89 4 v left.length (left.flatMap CondM.cells)
section
variable {w wr w':World} {ks left:List CondM} {E:List (Int×Nat)} {v:Value} {i:Nat}
theorem NW.size (h:NW w wr ks E v left i):w.heap.size+2≤wr.heap.size:=by have:=om_lt h.eq;omega
theorem NW.kept (h:NW w wr ks E v left i)(hb:Below wr.heap.size wr w'):NW w w' ks E v left i:=
 ⟨h.bel.trans (hb.mono h.bel.size),om_block h.th (hb.block _ (om_lt h.th)),om_block h.eq (hb.block _ (om_lt h.eq)),or_block h.row fun g _ hg _=>hb.block g hg⟩
theorem NW.mono (h:NW w wr ks E v left i){j:Nat}(hj:i≤j):NW w wr ks E v left j:=⟨h.bel,h.th.mono hj,h.eq.mono hj,h.row⟩
theorem bel_grown {B:Nat}{r:Nat}(hg:wr.grownBy w' (some r))(hr:B≤r)(hB:B≤wr.heap.size):Below B wr w':=
 ⟨hg.os,hg.tape,hg.output,hg.size,fun k hk=>hg.block k (by omega) (fun e=>by injection e with e;omega)⟩
theorem NW.addTh (h:NW w wr ks E v left i){c:CondM}(hm:w'.ownsMap Tryz.prog 89 unitElem w.heap.size (i+1) ((unD (ks.map condK):DataW Unit).put (condK c) (.agg []))) (hg:wr.grownBy w' (some w.heap.size)):NW w w' (ks++[c]) E v left (i+1):=by
 refine ⟨h.bel.trans (bel_grown hg (Nat.le_refl _) h.bel.size),?_,?_,?_⟩
 ·rw [List.map_append,List.map_cons,List.map_nil,unD_snoc];exact hm
 ·exact (om_block h.eq (hg.block _ (om_lt h.eq) (fun e=>by injection e with e;omega))).mono (by omega)
 ·exact or_block h.row fun g hB hl _=>hg.block g hl (fun e=>by injection e with e;omega)
theorem NW.addEq (h:NW w wr ks E v left i){a:Int}{x:Nat}(hm:w'.ownsMap Tryz.prog 3 (plainElem Tryz.prog 57) (w.heap.size+1) (i+1) ((eqD E:DataW Unit).put (.int .i64 a) (.lit (.int .u64 (x:Nat)))))(hg:wr.grownBy w' (some (w.heap.size+1))):NW w w' ks (E++[(a,x)]) v left (i+1):=by
 refine ⟨h.bel.trans (bel_grown hg (by omega) h.bel.size),?_,?_,?_⟩
 ·exact (om_block h.th (hg.block _ (om_lt h.th) (fun e=>by injection e with e;omega))).mono (by omega)
 ·rw [eqD_snoc];exact hm
 ·exact or_block h.row fun g hB hl _=>hg.block g hl (fun e=>by injection e with e;omega)
theorem NW.addRow (h:NW w wr ks E v left i){c:CondM}{v':Value}(hr:w'.ownsRow (w.heap.size+2) 89 4 v' (left.length+1) (left.flatMap CondM.cells++CondM.cells c))(hg:wr.grownBy w' v.ownBlock):NW w w' ks E v' (left++[c]) i:=by
 have hge:=own_ge h.row
 have hne:∀k,k<wr.heap.size→k<w.heap.size+2→w'.heap[k]?=wr.heap[k]?:=fun k h1 h2=>hg.block k h1 (fun e=>by have:=hge k e.symm;omega)
 have hlt:=om_lt h.eq
 refine ⟨⟨hg.os.trans h.bel.os,hg.tape.trans h.bel.tape,hg.output.trans h.bel.output,Nat.le_trans h.bel.size hg.size,fun k hk=>(hne k (by omega) (by omega)).trans (h.bel.block k hk)⟩,om_block h.th (hne _ (by omega) (by omega)),om_block h.eq (hne _ hlt (by omega)),?_⟩
 rw [List.length_append,List.flatMap_append]
 simpa using hr
end
theorem nw_start (w:World):NW w ((w.alloc (.map #[] 0)).alloc (.map #[] 0)) [] [] (.slice none 0 0) [] 0:=by
 have h1:=World.ownsMap_made (H:=Unit) w Tryz.prog 89 unitElem
 have h2:=World.ownsMap_made (H:=Unit) (w.alloc (.map #[] 0)) Tryz.prog 3 (plainElem Tryz.prog 57)
 have hs:(w.alloc (.map #[] 0)).heap.size=w.heap.size+1:=by simp
 rw [hs] at h2
 refine ⟨((Below.refl w.heap.size w).alloc (Nat.le_refl _) _).trans ((Below.refl w.heap.size _).alloc (by rw [hs];omega) _),om_block h1 (Below.heap_alloc _ _ _ (by rw [hs];omega)),h2,World.ownsRow_nil _ _ _ _⟩
def NeedPost (l:List CondM)(w:World)(e:Ending)(w':World):Prop:=
 Below w.heap.size w w'∧match needF [] [] l with
 | none=>e=.returned (.tuple #[.slice none 0 0,.bool false])
 | some left=>∃A cp,e=.returned (.tuple #[.slice A left.length cp,.bool true])∧w'.ownsRow w.heap.size 89 4 (.slice A left.length cp) left.length (left.flatMap CondM.cells)
theorem own_base {w:World}{e:TypeId}{z n:Nat}{v:Value}{xs:List Value}{B B':Nat}(h:w.ownsRow B e z v n xs)(hB:B'≤B):w.ownsRow B' e z v n xs:=by
 obtain ⟨h1,h2|⟨g,cap,cur,h2,h3,h4⟩⟩:=h
 ·exact ⟨h1,Or.inl h2⟩
 ·exact ⟨h1,Or.inr ⟨g,cap,cur,h2,by omega,h4⟩⟩
theorem need_none {l:List CondM}{w wr w':World}{ks left:List CondM}{E:List (Int×Nat)}{v:Value}{i:Nat}(h:NW w wr ks E v left i)(hb:Below wr.heap.size wr w')(hF:needF [] [] l=none):NeedPost l w (.returned (.tuple #[.slice none 0 0,.bool false])) w':=by
 unfold NeedPost;rw [hF];exact ⟨(h.kept hb).bel,rfl⟩
theorem need_some {l:List CondM}{w wr:World}{ks left:List CondM}{E:List (Int×Nat)}{A:Option Addr}{cp:Nat}{i:Nat}(h:NW w wr ks E (.slice A left.length cp) left i)(hF:needF [] [] l=some left):NeedPost l w (.returned (.tuple #[.slice A left.length cp,.bool true])) wr:=by
 unfold NeedPost;rw [hF];exact ⟨h.bel,A,cp,rfl,own_base h.row (by omega)⟩
/-! The rounds, as lists. -/
theorem need_never {l left:List CondM}{E:List (Int×Nat)}{i:Nat}{c:CondM}{r:Option (List CondM)}(h:r=needF E left (l.drop i))(hc:l[i]?=some c)(hn:neverB c=true):r=none:=by
 rw [h,List.drop_eq_getElem?_toList_append,hc];simp [needF,hn]
theorem need_end {l left:List CondM}{E:List (Int×Nat)}{i:Nat}{r:Option (List CondM)}(h:r=needF E left (l.drop i))(hi:l.length≤i):r=some left:=by
 rw [h,List.drop_of_length_le hi];rfl
theorem need_bad {l left:List CondM}{E:List (Int×Nat)}{i:Nat}{c:CondM}{r:Option (List CondM)}(h:r=needF E left (l.drop i))(hc:l[i]?=some c)(ho:c.op=1)(h1:¬((c.arg,c.val)∈E∨∀e∈E,e.1≠c.arg)):r=none:=by
 rw [h,List.drop_eq_getElem?_toList_append,hc]
 simp only [Option.toList_some,List.singleton_append,needF,ho,h1,if_true,if_false,ite_self]
theorem need_on {l left:List CondM}{E:List (Int×Nat)}{i:Nat}{c:CondM}{r:Option (List CondM)}(h:r=needF E left (l.drop i))(hc:l[i]?=some c)(hn:neverB c=false)(h1:c.op=1→(c.arg,c.val)∈E∨∀e∈E,e.1≠c.arg) :
  r=needF (if c.op=1 then E++[(c.arg,c.val)] else E) (if c∈left∨alwaysB c=true then left else left++[c]) (l.drop (i+1)):=by
 rw [h,List.drop_eq_getElem?_toList_append,hc]
 simp only [Option.toList_some,List.singleton_append,needF,hn,Bool.false_eq_true,if_false]
 by_cases ho:c.op=1
 ·rw [if_pos ho,if_pos ho,if_pos (h1 ho)]
 ·rw [if_neg ho,if_neg ho]
end Go.Proofs.YtcnebdjhhfnmoaaGreatDoor.Ir
