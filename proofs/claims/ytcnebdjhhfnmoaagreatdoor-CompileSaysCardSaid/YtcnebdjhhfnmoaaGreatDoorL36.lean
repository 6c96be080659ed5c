/- A plan in memory decides what its policy says. -/
import Derived.Test.YtcnebdjhhfnmoaaGreatDoorL35
import Derived.Test.YtcnebdjhhfnmoaaGreatDoorL28
import Derived.Test.YtcnebdjhhfnmoaaGreatDoorL31
import Derived.Test.YtcnebdjhhfnmoaaGreatDoorL27
import Derived.Test.YtcnebdjhhfnmoaaGreatDoorL14
import Derived.Test.YtcnebdjhhfnmoaaGreatDoorL01
set_option maxHeartbeats 32000000
set_option maxRecDepth 100000
namespace Go.Proofs.YtcnebdjhhfnmoaaGreatDoor.Ir
open Go.Proofs.YtcnebdjhhfnmoaaGreatDoor.Me Go.RowKit
theorem asc_of {ms l:List RuleM}{cs:List CaV}(h:Sorted ms l)(e:cs.map CaV.m=ofF l):Asc cs:=fun i j c d hij hc hd=>by
 have hp:=(of_cases (sorted_num h)).1
 rw [←e,List.pairwise_map] at hp
 obtain ⟨h1,rfl⟩:=List.getElem?_eq_some_iff.1 hc
 obtain ⟨h2,rfl⟩:=List.getElem?_eq_some_iff.1 hd
 exact List.pairwise_iff_getElem.1 hp i j h1 h2 hij
theorem brF_is (d:Nat)(brs:List BrV)(x:RcM):brF d brs x=(brS x (brs.map BrV.m)).getD d:=by
 unfold brF brS
 rw [List.find?_map,Option.map_map]
 show (match brs.find? (allH x) with|some b=>b.m.act|none=>d)=((brs.find? (allH x)).map _).getD d
 cases brs.find? (allH x)<;>rfl
theorem dec_says {ms l:List RuleM}{cs:List CaV}(h:Sorted ms l)(e:cs.map CaV.m=ofF l){x:RcM}(hx:x.ok){d r:Nat}(hr:DecR d cs x r):r=saysR d ms x:=by
 unfold saysR
 rcases hr with ⟨h1,h2⟩|⟨h1,h2⟩
 ·rw [if_neg h1];exact h2
 ·rw [if_pos h1]
  obtain ⟨p1,p2⟩:=plan_says h hx d
  rcases h2 with ⟨c,hc,hcx,hr⟩|⟨hno,hr⟩
  ·rw [hr,brF_is]
   exact p1 c.m (by rw [←e];exact List.mem_map.2 ⟨c,hc,rfl⟩) hcx
  ·rw [hr]
   refine p2 fun c hc=>?_
   rw [←e] at hc
   obtain ⟨c',hc',rfl⟩:=List.mem_map.1 hc
   exact hno c' hc'
theorem need_sub:∀(l:List CondM)(E:List (Int×Nat))(left r:List CondM),needF E left l=some r→r.length≤left.length+l.length∧∀c∈r,c∈left∨c∈l
 | [],E,left,r,h=>by
  unfold needF at h
  cases h
  exact ⟨by simp,fun c hc=>Or.inl hc⟩
 | c::t,E,left,r,h=>by
  have hs:(if c∈left∨alwaysB c=true then left else left++[c]).length≤left.length+1∧∀d∈(if c∈left∨alwaysB c=true then left else left++[c]),d∈left∨d=c:=by
   split
   ·exact ⟨by omega,fun d hd=>Or.inl hd⟩
   ·exact ⟨by simp,fun d hd=>(List.mem_append.1 hd).imp id List.mem_singleton.1⟩
  have done:∀E',needF E' (if c∈left∨alwaysB c=true then left else left++[c]) t=some r→r.length≤left.length+(c::t).length∧∀d∈r,d∈left∨d∈c::t:=fun E' h'=>by
   obtain ⟨h1,h2⟩:=need_sub t _ _ r h'
   refine ⟨by have:=hs.1;rw [List.length_cons];omega,fun d hd=>?_⟩
   rcases h2 d hd with g|g
   ·rcases hs.2 d g with g|g
    ·exact Or.inl g
    ·exact Or.inr (by rw [g];exact List.mem_cons_self)
   ·exact Or.inr (List.mem_cons_of_mem _ g)
  unfold needF at h
  split at h
  ·cases h
  ·split at h
   ·split at h
    ·exact done _ h
    ·cases h
   ·exact done _ h
theorem add_sub (l:List BrM)(r:RuleM):(addF l r).length≤l.length+1∧∀b∈addF l r,b∈l∨(b.act=r.act∧b.conds.length≤r.conds.length∧∀c∈b.conds,c∈r.conds):=by
 refine ⟨addF_len l r,fun b hb=>?_⟩
 unfold addF at hb
 split at hb
 ·exact Or.inl hb
 ·cases hF:needF [] [] r.conds with
  | none=>rw [hF] at hb;exact Or.inl hb
  | some left=>
   rw [hF] at hb
   obtain ⟨h1,h2⟩:=need_sub _ _ _ _ hF
   rcases List.mem_append.1 hb with hb|hb
   ·exact Or.inl hb
   ·rw [List.mem_singleton.1 hb]
    exact Or.inr ⟨rfl,by simpa using h1,fun c hc=>(h2 c hc).elim (fun h=>by simp at h) id⟩
theorem fold_sub:∀(rs:List RuleM)(l:List BrM),(rs.foldl addF l).length≤l.length+rs.length∧∀b∈rs.foldl addF l,b∈l∨∃r∈rs,b.act=r.act∧b.conds.length≤r.conds.length∧∀c∈b.conds,c∈r.conds
 | [],l=>⟨by simp,fun b hb=>Or.inl hb⟩
 | r::t,l=>by
  obtain ⟨h1,h2⟩:=fold_sub t (addF l r)
  obtain ⟨g1,g2⟩:=add_sub l r
  refine ⟨by rw [List.foldl_cons,List.length_cons];omega,fun b hb=>?_⟩
  rcases h2 b hb with h|⟨q,hq,h⟩
  ·rcases g2 b h with h|h
   ·exact Or.inl h
   ·exact Or.inr ⟨r,by simp,h⟩
  ·exact Or.inr ⟨q,List.mem_cons_of_mem _ hq,h⟩
theorem plan_sub {ms l:List RuleM}(h:Sorted ms l):∀c∈ofF l,c.brs.length≤ms.length∧∀b∈c.brs,∃r∈ms,r.num=c.num∧b.act=r.act∧b.conds.length≤r.conds.length∧∀q∈b.conds,q∈r.conds:=fun c hc=>by
 obtain ⟨_,h2,_⟩:=of_cases (sorted_num h)
 obtain ⟨_,e⟩:=h2 c hc
 obtain ⟨g1,g2⟩:=fold_sub (rulesOf c.num l) []
 rw [←e] at g1 g2
 refine ⟨?_,fun b hb=>?_⟩
 ·have h3:(rulesOf c.num l).length≤l.length:=List.length_filter_le _ _
  rw [h.len] at h3
  simp at g1
  omega
 ·rcases g2 b hb with g|⟨r,hr,g⟩
  ·simp at g
  ·obtain ⟨h3,h4⟩:=List.mem_filter.1 hr
   exact ⟨r,h.mem r h3,of_decide_eq_true h4,g⟩
theorem plan_len {ms l:List RuleM}(h:Sorted ms l):(ofF l).length≤ms.length:=by
 have e:=st_len' l none
 rw [←h.len]
 unfold ofF
 cases hs:l.foldl stF none with
 | none=>simp [stE]
 | some x=>rw [hs] at e;simp only at e;simp [stE];omega
end Go.Proofs.YtcnebdjhhfnmoaaGreatDoor.Ir
namespace Go.Proofs.YtcnebdjhhfnmoaaGreatDoor.Lo
open Go.RowKit Go.Proofs.YtcnebdjhhfnmoaaGreatDoor.Ju Go.Proofs.YtcnebdjhhfnmoaaGreatDoor.Me Go.Proofs.YtcnebdjhhfnmoaaGreatDoor.Ir
theorem csin_of {w:World}{A:Option Addr}{cs:List CaV}(h:PlanR w A cs)(hs:∀c∈cs,c.brs.length≤100000∧∀b∈c.brs,b.m.conds.length≤100000∧∀q∈b.m.conds,q.ok):CsIn w cs A:=
 ⟨h.row.rd,fun c hc=>⟨(h.brs c hc).rd,(hs c hc).1,fun b hb=>⟨TRd.rd (h.con c hc b hb),(hs c hc).2 b hb⟩⟩⟩
theorem cwf_of {c:CondM}(h:c.ok):CWf c:=⟨h.2.2.1,h.2.2.2.1,h.2.2.2.2⟩
theorem of_fine {ms l:List RuleM}(h:Sorted ms l)(hok:∀r∈ms,r.ok):∀c∈ofF l,CaWf c:=fun c hc=>by
 obtain ⟨_,g⟩:=plan_sub h c hc
 obtain ⟨⟨r,hr,hn⟩,_⟩:=(of_cases (sorted_num h)).2.1 c hc
 refine ⟨by rw [←hn];exact (hok r (h.mem r hr)).1,fun b hb=>?_⟩
 obtain ⟨r2,hr2,_,ha,_,hcs⟩:=g b hb
 exact ⟨by rw [ha];exact (hok r2 hr2).2.1,fun q hq=>cwf_of ((hok r2 hr2).2.2.2 q (hcs q hq))⟩
theorem ca_says {ms l:List RuleM}(h:Sorted ms l){x:RcM}(hx:x.ok)(d:Nat):(if x.arch=3221225534 then caV x d (ofF l) x.num else 2147483648)=saysR d ms x:=by
 obtain ⟨p1,p2⟩:=plan_says h hx d
 unfold saysR
 by_cases ha:x.arch=3221225534
 ·rw [if_pos ha,if_pos ha]
  unfold caV
  cases hf:(ofF l).find? (fun c=>decide (x.num=c.num)) with
  | none=>
   refine p2 fun c hc e=>?_
   have:=List.find?_eq_none.1 hf c hc
   simp only [decide_eq_true_eq] at this
   exact this e.symm
  | some c=>
   have hm:=List.mem_of_find?_eq_some hf
   have he:=List.find?_some hf
   simp only [decide_eq_true_eq] at he
   exact p1 c hm he.symm
 ·rw [if_neg ha,if_neg ha]
end Go.Proofs.YtcnebdjhhfnmoaaGreatDoor.Lo
namespace Go.Proofs.YtcnebdjhhfnmoaaGreatDoor.Co
open Go.Proofs.YtcnebdjhhfnmoaaGreatDoor.Ju Go.Proofs.YtcnebdjhhfnmoaaGreatDoor.Ir Go.Proofs.YtcnebdjhhfnmoaaGreatDoor.Me Go.Proofs.YtcnebdjhhfnmoaaGreatDoor.Lo
theorem srt_uniq:∀(a b:List RuleM),a.Pairwise (fun x y=>¬ordF y x<0)→b.Pairwise (fun x y=>¬ordF y x<0)→(∀n s,a.filter (fun r=>decide (r.num=n∧Rec.strN r.act=s))=b.filter (fun r=>decide (r.num=n∧Rec.strN r.act=s)))→a=b
 | [],[],_,_,_=>rfl
 | [],y::b,_,_,h=>by have:=h y.num (Rec.strN y.act);simp at this
 | x::a,[],_,_,h=>by have:=h x.num (Rec.strN x.act);simp at this
 | x::a,y::b,ha,hb,h=>by
  have hx:x∈y::b:=by
   have h1:x∈(x::a).filter (fun r=>decide (r.num=x.num∧Rec.strN r.act=Rec.strN x.act)):=List.mem_filter.2 ⟨List.mem_cons_self,by simp⟩
   rw [h] at h1
   exact (List.mem_filter.1 h1).1
  have hy:y∈x::a:=by
   have h1:y∈(y::b).filter (fun r=>decide (r.num=y.num∧Rec.strN r.act=Rec.strN y.act)):=List.mem_filter.2 ⟨List.mem_cons_self,by simp⟩
   rw [←h] at h1
   exact (List.mem_filter.1 h1).1
  have hself:∀z:RuleM,¬ordF z z<0:=fun z=>by rw [ord_lt];omega
  have g1:¬ordF x y<0:=by
   rcases List.mem_cons.1 hx with e|e
   ·rw [e];exact hself y
   ·exact (List.pairwise_cons.1 hb).1 x e
  have g2:¬ordF y x<0:=by
   rcases List.mem_cons.1 hy with e|e
   ·rw [e];exact hself x
   ·exact (List.pairwise_cons.1 ha).1 y e
  rw [ord_lt] at g1 g2
  have e1:y.num=x.num:=by omega
  have e2:Rec.strN y.act=Rec.strN x.act:=by omega
  have hc:=h x.num (Rec.strN x.act)
  rw [List.filter_cons_of_pos (by simp),List.filter_cons_of_pos (by simp [e1,e2])] at hc
  injection hc with hc1 _
  subst hc1
  rw [srt_uniq a b (List.pairwise_cons.1 ha).2 (List.pairwise_cons.1 hb).2 fun n s=>by
   have hn:=h n s
   by_cases hp:x.num=n∧Rec.strN x.act=s
   ·rw [List.filter_cons_of_pos (by simp [hp.1,hp.2]),List.filter_cons_of_pos (by simp [hp.1,hp.2])] at hn
    injection hn
   ·rw [List.filter_cons_of_neg (by simpa using fun a=>fun b=>hp ⟨a,b⟩),List.filter_cons_of_neg (by simpa using fun a=>fun b=>hp ⟨a,b⟩)] at hn
    exact hn]
theorem sorted_uniq {ms a b:List RuleM}(ha:Sorted ms a)(hb:Sorted ms b):a=b:=srt_uniq a b ha.srt hb.srt fun n s=>(ha.stab n s).trans (hb.stab n s).symm
theorem needF_len:∀(cs:List CondM)(E:List (Int×Nat))(left out:List CondM),needF E left cs=some out→out.length≤left.length+cs.length
 | [],_,_,_,h=>by cases h;simp
 | c::t,E,left,out,h=>by
  have hl:(if c∈left∨alwaysB c=true then left else left++[c]).length≤left.length+1:=by split<;>simp
  unfold needF at h
  split at h
  ·cases h
  ·split at h
   ·split at h
    ·have:=needF_len t _ _ _ h;rw [List.length_cons];omega
    ·cases h
   ·have:=needF_len t _ _ _ h;rw [List.length_cons];omega
def wtR (r:RuleM):Nat:=8*r.conds.length+9
def totS:Option (List CaM×Nat×List BrM)→Nat
 | none=>0
 | some (cs,_,lb)=>(cs.map szC).sum+(lb.map szB).sum+7
theorem addF_sz (lb:List BrM)(r:RuleM):((addF lb r).map szB).sum≤(lb.map szB).sum+(8*r.conds.length+2):=by
 unfold addF
 split
 ·omega
 ·cases h:needF [] [] r.conds with
  | none=>simp
  | some left=>
   have:=needF_len _ _ _ _ h
   simp only [List.map_append,List.sum_append,List.map_cons,List.map_nil,List.sum_cons,List.sum_nil,szB]
   simp at this
   omega
theorem st_tot (s:Option (List CaM×Nat×List BrM))(r:RuleM):totS (stF s r)≤totS s+wtR r:=by
 have h0:=addF_sz [] r
 simp only [List.map_nil,List.sum_nil,Nat.zero_add] at h0
 cases s with
 | none=>
  show 0+((addF [] r).map szB).sum+7≤0+wtR r
  unfold wtR;omega
 | some t=>
  obtain ⟨cs,num,lb⟩:=t
  have h1:=addF_sz lb r
  unfold stF
  simp only
  split
  ·show (cs.map szC).sum+((addF lb r).map szB).sum+7≤(cs.map szC).sum+(lb.map szB).sum+7+wtR r
   unfold wtR;omega
  ·show ((cs++[(⟨num,lb⟩:CaM)]).map szC).sum+((addF [] r).map szB).sum+7≤(cs.map szC).sum+(lb.map szB).sum+7+wtR r
   simp only [List.map_append,List.sum_append,List.map_cons,List.map_nil,List.sum_cons,List.sum_nil,szC]
   unfold wtR;omega
theorem fold_tot:∀(l:List RuleM)(s:Option (List CaM×Nat×List BrM)),totS (l.foldl stF s)≤totS s+(l.map wtR).sum
 | [],_=>by simp
 | r::t,s=>by
  have h1:=st_tot s r
  have h2:=fold_tot t (stF s r)
  rw [List.foldl_cons,List.map_cons,List.sum_cons]
  omega
theorem of_tot (l:List RuleM):((ofF l).map szC).sum≤(l.map wtR).sum:=by
 have h:=fold_tot l none
 unfold ofF
 revert h
 cases l.foldl stF none with
 | none=>intro _;simp [stE]
 | some t=>
  obtain ⟨cs,num,lb⟩:=t
  intro h
  have h:(cs.map szC).sum+(lb.map szB).sum+7≤0+(l.map wtR).sum:=h
  show ((cs++[(⟨num,lb⟩:CaM)]).map szC).sum≤_
  simp only [List.map_append,List.sum_append,List.map_cons,List.map_nil,List.sum_cons,List.sum_nil,szC]
  omega
theorem of_size2 {ms l:List RuleM}{R C:Nat}(h:Sorted ms l)(hr:ms.length≤R)(hc:∀r∈ms,r.conds.length≤C):((ofF l).map szC).sum≤(8*C+9)*R:=by
 have h1:=of_tot l
 have h2:=sum_le wtR (8*C+9) l fun r hr=>by have:=hc r (h.mem r hr);unfold wtR;omega
 have h3:(8*C+9)*l.length≤(8*C+9)*R:=Nat.mul_le_mul_left _ (by rw [h.len];exact hr)
 omega
structure PlanW (d:Nat)(ms l:List RuleM)(M:Nat):Prop where
 way:Way (planL d (ofF l))
 oks:∀q∈planL d (ofF l),q.ok
 len:(planL d (ofF l)).length≤8+M
 wt:wtL (planL d (ofF l))≤3*(8+M)
 says:∀(x:RcM),x.ok→∀bs:List Nat,Sees (recW bs) x→valL (recW bs) (planL d (ofF l)) 0=saysR d ms x
theorem plan_w {d:Nat}{ms l:List RuleM}{R C:Nat}(h:Sorted ms l)(hd:d<4294967296)(hok:∀r∈ms,r.ok)(hr:ms.length≤R)(hc:∀r∈ms,r.conds.length≤C)(hM:(8*C+9)*R≤50000):PlanW d ms l ((8*C+9)*R):=by
 have hs:=of_size2 h hr hc
 have hfi:=of_fine h hok
 have hpl:=Lo.plan_len d (ofF l)
 have hpf:=plan_fine hd hfi (by
  have h1:=search_cnt d (ofF l).length 2 (ofF l)
  by_cases h0:ofF l=[]
  ·rw [h0];show (2:Nat)≤_;omega
  ·have h2:=search_len d (ofF l).length 2 (ofF l) (Nat.le_refl _) h0
   omega)
 have hw:=wt_len (planL d (ofF l))
 refine ⟨⟨plan_fwd d (ofF l),hpf.fin,plan_last d (ofF l)⟩,hpf.ok,by omega,by omega,fun x hx bs hb=>?_⟩
 rw [plan_val hb hx (of_cases (sorted_num h)).1 (fun c hcm b hb q hq=>((hfi c hcm).brs b hb).cs q hq),ca_says h hx]
theorem firstE_all {α:Type}{f:Nat→α→Nat}:∀{l:List α}{k:Nat},firstE f k l=0→∀(i:Nat)(x:α),l[i]?=some x→f (k+i) x=0
 | [],_,_,i,x,hx=>by simp at hx
 | y::t,k,h,i,x,hx=>by
  unfold firstE at h
  split at h
  ·rename_i h1;exact absurd h h1
  ·rename_i h1
   cases i with
   | zero=>simp at hx;subst hx;simpa using h1
   | succ i=>have:=firstE_all h i x (by simpa using hx);rwa [show k+1+i=k+(i+1) from by omega] at this
theorem pol_small {p:PolM}(h:polE p=0):p.rules.length≤64∧∀r∈p.rules,r.conds.length≤6:=by
 unfold polE at h
 split at h
 ·cases h
 split at h
 ·cases h
 split at h
 ·cases h
 rename_i h64
 split at h
 ·cases h
 split at h
 ·rename_i a;exact absurd h a
 rename_i a
 refine ⟨by omega,fun r hr=>?_⟩
 obtain ⟨i,hi⟩:=List.getElem?_of_mem hr
 have h0:=firstE_all (f:=fun _ r=>ruleE r) (Decidable.not_not.1 a) i r hi
 simp only [ruleE] at h0
 split at h0
 ·cases h0
 split at h0
 ·cases h0
 split at h0
 ·cases h0
 omega
end Go.Proofs.YtcnebdjhhfnmoaaGreatDoor.Co
namespace Go.Proofs.YtcnebdjhhfnmoaaGreatDoor.Me
open Go.RowKit Go.WideElems
theorem infoRec:(Tryz.prog.info? 60).map (fun i=>(i.zero,i.size,i.bytes))=some (some (.agg #[.int .u32 0,.int .u32 0,.int .u64 0,.int .u64 0,.int .u64 0,.int .u64 0,.int .u64 0,.int .u64 0,.int .u64 0]),9,64):=by kernel_rfl
theorem wrap_nat (z:Int):∃v:Nat,v<18446744073709551616∧IntKind.u64.wrap z=(v:Int):=by
 refine ⟨(z%18446744073709551616).toNat,by omega,?_⟩
 rw [IntKind.wrap_u64];omega
theorem append_list {w:World}{ops:Array Oper}{rest:List Oper}{o:Oper}{a:Act}{Q:Exit→Act→World→Prop}(hgd:o.guard=none)(s x:Operand)(t e:TypeId)
  (ho:o.op=.call { callee:=.builtin .append,args:=#[s,x],argTypes:=#[t,t] }) (zero:Value) (size bytes:Nat)
  (hinfo:(Tryz.prog.info? e).map (fun i=>(i.zero,i.size,i.bytes))=some (some zero,size,bytes)) (ht:Tryz.prog.underlying t=some (.slice e)) (hzs:zero.cells.size=size) (hsz:0<size) (hby:bytes≤64)
  (base:Nat) (v:Value) (n:Nat) (xs:List Value) (hs:a.eval s=v) (hown:w.ownsRow base e size v n xs) (A:Option Addr) (m c:Nat) (news:List Value) (hx:a.eval x=.slice A m c) (hA:A=none→m=0∧c=0) (hR:Rd w size m A news) (h1:∀u∈news,u.oneCell'=true) (hn:n+m≤100000) (hbase:base≤w.heap.size)
  (h:∀v' w',w'.ownsRow base e size v' (n+m) (xs++news)→w.grownBy w' v.ownBlock→(v'.ownBlock=v.ownBlock∨v'.ownBlock=some w.heap.size)→wpList Tryz.prog ops Q rest (a.put o.dst v') w'):wpList Tryz.prog ops Q (o::rest) a w:=by
 obtain ⟨i0,hi,hz0,hz1,hz2⟩:=info_parts hinfo
 cases A with
 | none=>
  obtain ⟨rfl,rfl⟩:=hA rfl
  have hnil:news=[]:=by have:=hR.len;simp at this;exact this
  subst hnil
  refine wpList_append_own_none hgd s x t ho base e i0 size ht hi v n xs hs hown hx (h v w ?_ ⟨rfl,rfl,rfl,Nat.le_refl _,fun _ _ _=>rfl⟩ (.inl rfl))
  simpa using hown
 | some ad=>
  refine wpList_append_own_at w hgd s x t ho base e i0 zero size bytes ht hi hz0 hz1 hz2 hzs hsz v n xs hs hown ad m c news hx hR.len (fun j u hu=>?_) h1 (by unfold maxLen;omega) ?_ hbase (fun v' w' h1 h2 _ h3=>h v' w' h1 h2 h3)
  ·have hlt:=(List.getElem?_eq_some_iff.1 hu).1
   rw [hR.len] at hlt
   obtain ⟨b,o,e,hb,hc⟩:=hR.pos (by cases m with|zero=>simp at hlt|succ m=>omega)
   cases e
   rw [addr_at];exact hc j u hu
  ·have:(n+m)*bytes≤100000*64:=Nat.mul_le_mul hn hby
   omega
theorem own_empty (w:World)(e:TypeId)(size:Nat):(w.alloc (.cells #[] e)).ownsRow w.heap.size e size (.slice (some ⟨w.heap.size,0,none⟩) 0 0) 0 []:=
 ⟨by simp,.inr ⟨w.heap.size,0,#[],rfl,Nat.le_refl _,heap_alloc_new w _,Nat.le_refl _,by unfold maxLen;omega,by simp,by simp⟩⟩
theorem rec_one:∀(x:RcM),∀u∈x.cells,u.oneCell'=true:=by
 intro x u hu
 simp only [RcM.cells,List.mem_cons,List.not_mem_nil,or_false] at hu
 rcases hu with rfl|rfl|rfl|rfl|rfl|rfl|rfl|rfl|rfl<;>rfl
theorem recs_one (l:List RcM):∀u∈l.flatMap RcM.cells,u.oneCell'=true:=by
 intro u hu
 obtain ⟨x,_,hx⟩:=List.mem_flatMap.1 hu
 exact rec_one x u hx
theorem rec_set {w:World}{g t k:Nat}{x:RcM}{z:Int}(h:Bk w g t x.cells)(hx:x.ok)(hk:k<6):∃x':RcM,x'.ok∧Bk (w.setCell ⟨g,3+k,none⟩ (.int .u64 (IntKind.u64.wrap z))) g t x'.cells:=by
 obtain ⟨v,hv,hz⟩:=wrap_nat z
 rw [hz]
 have hs:=h.set (3+k) (.int .u64 (v:Int))
 rcases six hk with rfl|rfl|rfl|rfl|rfl|rfl
 ·exact ⟨{ x with a0:=v },⟨hx.num,hx.arch,hx.at_,hv,hx.a1,hx.a2,hx.a3,hx.a4,hx.a5⟩,hs⟩
 ·exact ⟨{ x with a1:=v },⟨hx.num,hx.arch,hx.at_,hx.a0,hv,hx.a2,hx.a3,hx.a4,hx.a5⟩,hs⟩
 ·exact ⟨{ x with a2:=v },⟨hx.num,hx.arch,hx.at_,hx.a0,hx.a1,hv,hx.a3,hx.a4,hx.a5⟩,hs⟩
 ·exact ⟨{ x with a3:=v },⟨hx.num,hx.arch,hx.at_,hx.a0,hx.a1,hx.a2,hv,hx.a4,hx.a5⟩,hs⟩
 ·exact ⟨{ x with a4:=v },⟨hx.num,hx.arch,hx.at_,hx.a0,hx.a1,hx.a2,hx.a3,hv,hx.a5⟩,hs⟩
 ·exact ⟨{ x with a5:=v },⟨hx.num,hx.arch,hx.at_,hx.a0,hx.a1,hx.a2,hx.a3,hx.a4,hv⟩,hs⟩
structure Fl (wq wx:World)(g:Nat)(x:RcM):Prop where
 bk:Bk wx g 60 x.cells
 ok:x.ok
 grow:wq.grownBy wx (some g)
theorem Fl.kept {wq wx w':World}{g:Nat}{x:RcM}(h:Fl wq wx g x)(hb:Below wx.heap.size wx w'):Fl wq w' g x:=
 ⟨h.bk.kept hb,h.ok,grown_trans h.grow ⟨hb.os,hb.tape,hb.output,hb.size,fun i hi _=>hb.block i hi⟩ (fun k (hk:none=some k)=>by cases hk)⟩
theorem Fl.set {wq wx:World}{g k:Nat}{x:RcM}{z:Int}(h:Fl wq wx g x)(hk:k<6):∃x',Fl wq (wx.setCell ⟨g,3+k,none⟩ (.int .u64 (IntKind.u64.wrap z))) g x':=by
 obtain ⟨x',h1,h2⟩:=rec_set h.bk h.ok hk
 exact ⟨x',h2,h1,grown_trans h.grow (only_set wx g (3+k) _) (fun _ hk=>.inl hk)⟩
theorem fl_rel {wq wx:World}{g k j:Nat}{x:RcM}{z:Int}{n:Nat}(h:Fl wq wx g x)(hk:k<6)(hj:j<n):∃(j':Nat) (x':RcM),Value.int .i64 ((j:Int)+1)=.int .i64 j'∧j'≤n∧Hid (Fl wq (wx.setCell ⟨g,3+k,none⟩ (.int .u64 (IntKind.u64.wrap z))) g x'):=by
 obtain ⟨x',hx⟩:=h.set (z:=z) hk
 exact ⟨j+1,x',by go_num,by omega,hx⟩
def RecsPostO (w:World)(e:Ending)(w':World):Prop:=
 (∃(rs:List RcM) (A:Option Addr) (c:Nat),e=.returned (.slice A rs.length c)∧rs.length≤50∧(∀x∈rs,x.ok)∧w'.ownsRow w.heap.size 60 9 (.slice A rs.length c) rs.length (rs.flatMap RcM.cells))∧Below w.heap.size w w'
theorem own_lowU {w:World}{B C:Nat}{e:TypeId}{z n:Nat}{v:Value}{xs:List Value}(h:w.ownsRow B e z v n xs)(hb:C≤B):w.ownsRow C e z v n xs:=
 ⟨h.1,h.2.imp id fun ⟨g,cap,cur,e,h1,h2⟩=>⟨g,cap,cur,e,Nat.le_trans hb h1,h2⟩⟩
theorem recs_end {w w2 wr:World}{v:Value}{rs:List RcM}(ho:wr.ownsRow w2.heap.size 60 9 v rs.length (rs.flatMap RcM.cells))(hl:rs.length≤50)(hok:∀x∈rs,x.ok)(hs:w.heap.size≤w2.heap.size)(hb:Below w.heap.size w wr):RecsPostO w (.returned v) wr:=by
 obtain ⟨A,c,rfl,_,ht,_,_⟩:=own_typed ho
 exact ⟨⟨rs,A,c,rfl,hl,hok,own_lowU ho hs⟩,hb⟩
theorem set3_grown (w:World)(g:Nat)(v0 v1 v2:Value):w.grownBy (((w.setCell ⟨g,0,none⟩ v0).setCell ⟨g,1,none⟩ v1).setCell ⟨g,2,none⟩ v2) (some g):=only_trans (only_trans (only_set w g 0 v0) (only_set _ g 1 v1)) (only_set _ g 2 v2)
theorem cell_grow3 {w:World}{b o g:Nat}{v v0 v1 v2:Value}(h:w.cell? ⟨b,o,none⟩=some v)(hn:b≠g):(((w.setCell ⟨g,0,none⟩ v0).setCell ⟨g,1,none⟩ v1).setCell ⟨g,2,none⟩ v2).cell? ⟨b,o,none⟩=some v:=cell_grown h (set3_grown w g v0 v1 v2) hn
theorem rd_new (w:World)(a:Array Value){l:List Value}{n z:Nat}{T:TypeId}(h:a=l.toArray)(hl:l.length=n*z):Rd (w.alloc (.cells a T)) z n (some ⟨w.heap.size,0,none⟩) l:=
 ⟨hl,.inr ⟨w.heap.size,0,rfl,by simp,fun j u hu=>by rw [Nat.zero_add];exact (Bk.new w T a h).cell j hu⟩⟩
theorem records_anyO (nm:ByteArray)(d:Nat)(rules:List RuleV)(RA:Option Addr)(nR Rc hd:Nat)(PA:Option Addr)(nP Pc:Nat)(QA:Option Addr)(nQ Qc:Nat)(l:List RcM)(A:Option Addr)(n c:Nat)(pl:List Nat)(PB:Option Addr)(pn pc:Nat)(w:World)
  (hn:rules.length=nR) (hl:nR≤1000) (hR:RRd w rules RA) (hln:l.length=n) (hn20:n≤20) (hlok:∀x∈l,x.ok) (hA:A=none→n=0∧c=0) (hlR:Rd w 9 n A (l.flatMap RcM.cells)) (hpn:pl.length=pn) (hpm:pn≤maxLen) (hp8:∀x∈pl,x<256) (hpR:Rd w 1 pn PB (u8s pl)) :
  Calls Tryz.prog 17 #[.agg #[.string nm,.int .u32 d,.slice RA nR Rc,.int .u16 hd,.slice PA nP Pc,.slice QA nQ Qc],.slice A n c,.slice PB pn pc] w (RecsPostO w):=by
 have hpm':pn≤9223372036854775807:=hpm
 have hk1:=Bk.new w 30 #[.string nm,.int .u32 d,.slice RA nR Rc,.int .u16 hd,.slice PA nP Pc,.slice QA nQ Qc] (l:=[.string nm,.int .u32 d,.slice RA nR Rc,.int .u16 hd,.slice PA nP Pc,.slice QA nQ Qc]) rfl
 have hb:=oneb w (.cells #[.string nm,.int .u32 d,.slice RA nR Rc,.int .u16 hd,.slice PA nP Pc,.slice QA nQ Qc] 30)
 have HR:=qd (hR.below hb)
 have HlR:=qd (hlR.below hb)
 have HpR:=qd (hpR.below hb)
 have HN:=qd hn
 have Hln:=qd hln
 have Hlok:=qd hlok
 have HA:=qd hA
 have Hpn:=qd hpn
 have Hp8:=qd hp8
 clear hR hlR hpR hn hln hlok hA hpn hp8 hpm
 go_enter Tryz.func17,Tryz.ntmps17
 go_upto_region 1 with fail
 generalize World.alloc w _=w2 at hk1 hb HR HlR HpR ⊢
 have HB0:=qd hb
 have hlt1:=hk1.lt
 have HK1:=qd hk1
 clear hk1 hb
 go_wp2_with (at_builtin;go_loud (refine append_list rfl (.tmp 14) (.tmp 15) 36 60 rfl _ 9 64 infoRec Tryz.underlying36 rfl (by decide) (by decide) w2.heap.size _ 0 [] rfl (own_empty w2 _ _) A n c (l.flatMap RcM.cells) rfl HA.out (HlR.out.below (oneb w2 _)) (recs_one l) (by omega) (by simp) ?_);intro v1 w3 hown hgrow hat;have hb3:=(oneb w2 (.cells #[] 60)).grown hgrow (by simp) (fun g hg=>by cases hg;exact Nat.le_refl _);have HB3:=qd hb3;have HO3:=qd hown;clear hown hgrow hat hb3)
 have HO0:=qd (show w3.ownsRow w2.heap.size 60 9 v1 l.length (l.flatMap RcM.cells) by have:=HO3.out;rw [Hln.out];simpa using this)
 clear HO3
 go_loopw [7,19] (fun v iv wr=>∃(k:Nat) (rs:List RcM),iv=.int .i64 k∧k≤pn∧k≤30∧rs.length≤20+k∧Hid (∀x∈rs,x.ok)∧Hid (wr.ownsRow w2.heap.size 60 9 v rs.length (rs.flatMap RcM.cells))∧Hid (Below w2.heap.size w2 wr)) (fun _ iv _=>pn-(intOf iv).toNat)
 case atStart=>exact ⟨0,l,rfl,Nat.zero_le _,by omega,by rw [Hln.out];omega,Hlok,HO0,HB3⟩
 case round=>
  clear HO0 HB3
  obtain ⟨k,rs,rfl,hk,hk30,hrs,HOk,HO,HB⟩:=hrel
  have hs:=HB.out.size
  have hlw1:=Nat.lt_of_lt_of_le hlt1 hs
  by_cases hlt:k<pn
  ·obtain ⟨pk,hpk⟩:∃pk,pl[k]?=some pk:=⟨_,List.getElem?_eq_getElem (by have:=Hpn.out;omega)⟩
   have hp256:=Hp8.out pk (List.mem_of_getElem? hpk)
   obtain ⟨bp,op,hAp,hbp,hcp⟩:=(HpR.out.below HB.out).pos (by omega)
   subst hAp
   have cp:=hcp k _ (show (u8s pl)[k]?=some (.int .u8 pk) by simp [u8s,hpk])
   clear hcp hpk
   by_cases h30:30≤k
   ·have g30:(30:Int)≤(k:Int):=by omega
    have d30:decide ((30:Int)≤(k:Int))=true:=decide_eq_true g30
    go_wp2_with fail
    go_ret
    exact recs_end HO.out (by omega) HOk.out HB0.out.size (HB0.out.trans (HB.out.mono HB0.out.size))
   ·have g30:¬(30:Int)≤(k:Int):=by omega
    have d30:decide ((30:Int)≤(k:Int))=false:=decide_eq_false g30
    have q2:=(HK1.out.kept HB.out).cell 2 rfl
    by_cases h0:nR=0
    ·have e0:((nR:Int)==0)=true:=by rw [h0];rfl
     have H0:=qd h0
     clear h0
     go_wp2_with fail
     go_ret
     exact recs_end HO.out (by omega) HOk.out HB0.out.size (HB0.out.trans (HB.out.mono HB0.out.size))
    ·have e0:((nR:Int)==0)=false:=by rw [beq_eq_false_iff_ne];omega
     obtain ⟨q,hq⟩:∃q,q=pk%nR:=⟨_,rfl⟩
     have hqn:q<nR:=by rw [hq];exact Nat.mod_lt _ (by omega)
     have tq:Int.tmod (pk:Int) (nR:Int)=(q:Int):=by rw [hq,Int.tmod_eq_emod_of_nonneg (by omega)];rfl
     have eq':(pk:Int)%(nR:Int)=(q:Int):=by rw [hq];rfl
     have tq2:IntKind.i64.wrap (q:Int)=(q:Int):=IntWalk.i64_in _ (by omega)
     have wk:IntKind.i64.wrap (pk:Int)=(pk:Int):=IntWalk.i64_in _ (by omega)
     have wn:IntKind.i64.wrap (nR:Int)=(nR:Int):=IntWalk.i64_in _ (by omega)
     have nz:¬((nR:Int)=0):=by omega
     have q0:(0:Int)≤(q:Int):=by omega
     have q1:(q:Int)<(nR:Int):=by omega
     clear hq
     obtain ⟨r,hr⟩:∃r,rules[q]?=some r:=⟨_,List.getElem?_eq_getElem (by have:=HN.out;omega)⟩
     have HRr:=qd (HR.out.below HB.out)
     have hrd:=HRr.out.r
     simp only [HN.out] at hrd
     obtain ⟨bb,ob,hA,hbl,hcell⟩:=hrd.one (fun _=>rfl) (by omega) (by omega)
     subst hA
     obtain ⟨c0,c1,c2⟩:=rule_cells hcell hr
     have hmem:=List.mem_of_getElem? hr
     have HMem:=qd hmem
     have HOr:=qd (HRr.out.ok r hmem)
     have HOff:=qd (fun t (ht:w2.heap.size≤t)=>(HR.out.c r hmem).off ht)
     clear hcell hrd hmem hr HRr
     obtain ⟨⟨num,act,cs⟩,A9,c9⟩:=r
     simp only at c0 c1 c2
     obtain ⟨nc,hnc⟩:∃nc,nc=cs.length:=⟨_,rfl⟩
     rw [←hnc] at c2
     have HNc:=qd hnc
     have hncm:nc≤9223372036854775807:=by rw [hnc];exact HOr.out.2.2.1
     clear hnc
     go_upto_region 6 with fail
     refine wp_region_held_drew (S:=(fun w'=>w'.cell? ⟨w.heap.size,2,none⟩=some (.slice (some ⟨bb,ob,none⟩) nR Rc)∧w'.cell? ⟨bb,ob+q*3,none⟩=some (.int .u32 num)∧w'.cell? ⟨bb,ob+q*3+1,none⟩=some (.int .u32 act)∧w'.cell? ⟨bb,ob+q*3+2,none⟩=some (.slice A9 nc c9))) (by kernel_rfl) ?_ (fun hHeld0=>?_)
     ·exact ⟨q2,c0,c1,c2⟩
     clear q2 c0 c1 c2
     have hHv0:=(Below.refl wr.heap.size wr).drew
     generalize wr.drew=vh0 at hHeld0 hHv0 ⊢
     have HBv:=qd hHv0
     refine tkH (i:=0) (s:=hHeld0) (h:=?_)
     try simp only [Act.put,pA,pB,pC]
     refine tkH (i:=1) (s:=hHeld0) (h:=?_)
     try simp only [Act.put,pA,pB,pC]
     refine tkH (i:=2) (s:=hHeld0) (h:=?_)
     try simp only [Act.put,pA,pB,pC]
     refine tkH (i:=3) (s:=hHeld0) (h:=?_)
     try simp only [Act.put,pA,pB,pC]
     refine tkH (i:=4) (s:=hHeld0) (h:=?_)
     try simp only [Act.put,pA,pB,pC]
     refine tkH (i:=5) (s:=hHeld0) (h:=?_)
     try simp only [Act.put,pA,pB,pC]
     refine tkH (i:=6) (s:=hHeld0) (h:=?_)
     try simp only [Act.put,pA,pB,pC]
     refine tkH (i:=7) (s:=hHeld0) (h:=?_)
     try simp only [Act.put,pA,pB,pC]
     refine tkH (i:=8) (s:=hHeld0) (h:=?_)
     try simp only [Act.put,pA,pB,pC]
     refine tkH (i:=9) (s:=hHeld0) (h:=?_)
     try simp only [Act.put,pA,pB,pC]
     refine wpAnyH_ready (rs:=[10]) (by kernel_rfl) (by simp) ?_
     refine crH (k:=fun K hK=>?_) (r:=?_)
     ·go_simp
      refine hK.out _ _ ?_ (fun hHeld1=>?_)
      ·exact ⟨cell_below hHeld0.1 (oneb _ _),cell_below hHeld0.2.1 (oneb _ _),cell_below hHeld0.2.2.1 (oneb _ _),cell_below hHeld0.2.2.2 (oneb _ _)⟩
      clear hK K
      have hbb:=oneb vh0 (.cells #[.int .u32 0,.int .u32 0,.slice none 0 0] 86)
      have hN:=Bk.new vh0 86 #[.int .u32 0,.int .u32 0,.slice none 0 0] (l:=[.int .u32 0,.int .u32 0,.slice none 0 0]) rfl
      generalize World.alloc vh0 _=vh1 at hbb hN hHeld1 ⊢
      have HBv:=qd (HBv.out.trans (hbb.mono HBv.out.size))
      have hgw:=HBv.out.size
      have hvs:=qd (Nat.le_refl vh0.heap.size)
      have HGw:=qd hHv0.size
      generalize vh0.heap.size=g at hN HGw hvs ⊢
      have n0:=hN.cell 0 rfl
      have n1:=hN.cell 1 rfl
      have n2:=hN.cell 2 rfl
      have z0:=hN.fz 0
      have z1:=hN.fz 1
      have z2:=hN.fz 2
      have nl:=hN.lt
      have HN1:=qd hN
      clear hbb hN hgw hvs hHeld0
      try simp only [Act.put,pA,pB,pC]
      refine wpAnyH_ready (rs:=[11]) (by kernel_rfl) (by simp) ?_
      refine crH (k:=fun K hK=>?_) (r:=?_)
      ·go_simp
       refine hK.out _ _ ?_ (fun hHeld2=>?_)
       ·exact ⟨cell_grow3 hHeld1.1 (by have:=HGw.out;omega),cell_grow3 hHeld1.2.1 (by have:=HGw.out;omega),cell_grow3 hHeld1.2.2.1 (by have:=HGw.out;omega),cell_grow3 hHeld1.2.2.2 (by have:=HGw.out;omega)⟩
       clear hK K
       try simp only [Act.put,pA,pB,pC]
       refine wpAnyH_done (by kernel_rfl) ?_ _
       have hN3:=((HN1.out.set 0 (.int .u32 num)).set 1 (.int .u32 act)).set 2 (.slice A9 nc c9)
       have hB3:=(HBv.out.grown (set3_grown vh1 g (.int .u32 num) (.int .u32 act) (.slice A9 nc c9)) HBv.out.size (fun k e=>by cases e;exact HGw.out))
       clear n0 n1 n2 z0 z1 z2 nl hHeld2
       generalize hw3:World.setCell (World.setCell (World.setCell vh1 _ _) _ _) _ _=w3 at hN3 hB3 ⊢
       clear hw3
       have n0:w3.cell? ⟨g,0,none⟩=some (.int .u32 num):=hN3.cell 0 rfl
       have n2:w3.cell? ⟨g,2,none⟩=some (.slice A9 nc c9):=hN3.cell 2 rfl
       have nl:=hN3.lt
       have HB3:=qd (HB.out.trans (hB3.mono HB.out.size))
       have HO3:=qd (own_keepN HO.out hB3)
       have HN3:=qd hN3
       clear hN3 hB3 HBv HN1
       go_upto_region 8 with fail
       have hb4:=oneb w3 (.cells #[.int .u32 num,.int .u32 3221225534,.int .u64 pk,.int .u64 0,.int .u64 0,.int .u64 0,.int .u64 0,.int .u64 0,.int .u64 0] 60)
       have hk4:=Bk.new w3 60 #[.int .u32 num,.int .u32 3221225534,.int .u64 pk,.int .u64 0,.int .u64 0,.int .u64 0,.int .u64 0,.int .u64 0,.int .u64 0] (l:=(RcM.mk num 3221225534 pk 0 0 0 0 0 0).cells) rfl
       generalize World.alloc w3 _=wq at hb4 hk4 ⊢
       have HB4:=qd (HB3.out.trans (hb4.mono HB3.out.size))
       have HO4:=qd (own_keepN HO3.out hb4)
       have n2:=(HN3.out.kept hb4).cell 2 rfl
       have nl:=(HN3.out.kept hb4).lt
       have hgl:=hk4.lt
       have hg3:g<w3.heap.size:=HN3.out.lt
       have HCq:=qd ((HR.out.below HB4.out).c _ HMem.out)
       have HLo:=qd (fun k hk=>(HO3.out.lt k hk))
       have HFl:=qd (show Fl wq wq w3.heap.size (RcM.mk num 3221225534 pk 0 0 0 0 0 0) from ⟨hk4,⟨HOr.out.1,by simp,by simp only;omega,by simp,by simp,by simp,by simp,by simp,by simp⟩,⟨rfl,rfl,rfl,Nat.le_refl _,fun _ _ _=>rfl⟩⟩)
       have HG3s:=qd (show w2.heap.size≤w3.heap.size from HB3.out.size)
       clear hk4 hb4 HB3 HO3 HN3 n0 hg3
       generalize w3.heap.size=g4 at hgl HFl HLo HG3s ⊢
       go_wp2_with fail
       clear n2
       go_loopw [50] (fun iv wy=>∃(j:Nat) (x:RcM),iv=.int .i64 j∧j≤nc∧Hid (Fl wq wy g4 x)) (fun iv _=>nc-(intOf iv).toNat)
       case atStart=>exact ⟨0,_,rfl,Nat.zero_le _,HFl⟩
       case round=>
        rename World=>wy
        obtain ⟨j,x,rfl,hj,HF⟩:=hrel
        have hsy:=HF.out.grow.size
        by_cases hjn:j<nc
        ·obtain ⟨c,hc⟩:∃c,cs[j]?=some c:=⟨_,List.getElem?_eq_getElem (by have:=HNc.out;omega)⟩
         have hrd:=HCq.out.grownO (HOff.out g4 HG3s.out) HF.out.grow
         change Rd _ 4 cs.length A9 (cs.flatMap CondM.cells) at hrd
         rw [←HNc.out] at hrd
         obtain ⟨b5,o5,hA5,hb5,hcell⟩:=hrd.one (fun _=>rfl) (by omega) (by omega)
         subst hA5
         obtain ⟨c0,c1,c2,c3⟩:=cond_cells hcell hc
         have hcok:=HOr.out.2.2.2 c (List.mem_of_getElem? hc)
         have k1:=hcok.2.2.2.2
         clear hcell hrd hc
         go_upto_region 11 with fail
         have hbx:=oneb wy (.cells #[.int .i64 c.arg,.int .u8 c.op,.int .u64 c.mask,.int .u64 c.val] 89)
         have hkx:=Bk.new wy 89 #[.int .i64 c.arg,.int .u8 c.op,.int .u64 c.mask,.int .u64 c.val] (l:=[.int .i64 c.arg,.int .u8 c.op,.int .u64 c.mask,.int .u64 c.val]) rfl
         clear c0 c1 c2 c3
         generalize World.alloc wy _=wz at hbx hkx ⊢
         have HFz:=qd (HF.out.kept hbx)
         have r0:=hkx.cell 0 rfl
         have r3:=hkx.cell 3 rfl
         have rl:=hkx.lt
         clear hkx hbx
         generalize wy.heap.size=g5 at r0 r3 rl hsy ⊢
         by_cases h1:0≤c.arg
         ·have d1:decide (0≤c.arg)=true:=decide_eq_true h1
          by_cases h2:c.arg≤5
          ·have d2:decide (c.arg≤5)=true:=decide_eq_true h2
           obtain ⟨k,hk⟩:∃k:Nat,c.arg=k:=⟨c.arg.toNat,by omega⟩
           rw [hk] at r0 h1 h2 d1 d2
           clear hk hcok
           have hk6:k<6:=by omega
           have hki:(k:Int)<6:=by omega
           have fx:=HFz.out.bk.cell (3+k) (RcM.arg_cell x hk6)
           have fz:=HFz.out.bk.fz (3+k)
           have fl:=HFz.out.bk.lt
           go_wp2_with fail
           go_roundw
           case rel=>exact fl_rel HFz.out hk6 hjn
           case measure=>simp [intOf];omega
          ·have d2:decide (c.arg≤5)=false:=decide_eq_false h2
           clear hcok
           go_wp2_with fail
           go_roundw
           case rel=>exact ⟨j+1,x,by go_num,by omega,HFz⟩
           case measure=>simp [intOf];omega
         ·have d1:decide (0≤c.arg)=false:=decide_eq_false h1
          clear hcok
          go_wp2_with fail
          go_roundw
          case rel=>exact ⟨j+1,x,by go_num,by omega,HFz⟩
          case measure=>simp [intOf];omega
        ·have HBy:=qd (HB4.out.grown HF.out.grow HB4.out.size (fun k e=>by cases e;exact HG3s.out))
         have HOy:=qd (own_keep HO4.out HF.out.grow (fun b hb=>by have:=(HLo.out b hb).2;omega))
         have f0:=HF.out.bk.cell 0 rfl
         have f1:=HF.out.bk.cell 1 rfl
         have f2:=HF.out.bk.cell 2 rfl
         have f3:=HF.out.bk.cell 3 rfl
         have f4:=HF.out.bk.cell 4 rfl
         have f5:=HF.out.bk.cell 5 rfl
         have f6:=HF.out.bk.cell 6 rfl
         have f7:=HF.out.bk.cell 7 rfl
         have f8:=HF.out.bk.cell 8 rfl
         have fl:=HF.out.bk.lt
         have HXo:=qd HF.out.ok
         clear hsy
         go_wp2_with (at_builtin;go_loud (refine append_list rfl (.tmp 83) (.tmp 85) 36 60 rfl _ 9 64 infoRec Tryz.underlying36 rfl (by decide) (by decide) w2.heap.size _ rs.length (rs.flatMap RcM.cells) rfl (own_keepN HOy.out (oneb wy _)) (some ⟨wy.heap.size,0,none⟩) 1 1 x.cells rfl (fun e=>by cases e) (rd_new wy _ (l:=x.cells) (n:=1) rfl rfl) (rec_one x) (by omega) (by have:=HBy.out.size;simp;omega) ?_);intro v' w8 hown' hgrow hat;have hoa:=own_keepN HOy.out (oneb wy (.cells #[.int .u32 x.num,.int .u32 x.arch,.int .u64 x.at_,.int .u64 x.a0,.int .u64 x.a1,.int .u64 x.a2,.int .u64 x.a3,.int .u64 x.a4,.int .u64 x.a5] 60));have hba:=(HBy.out.trans ((oneb wy (.cells #[.int .u32 x.num,.int .u32 x.arch,.int .u64 x.at_,.int .u64 x.a0,.int .u64 x.a1,.int .u64 x.a2,.int .u64 x.a3,.int .u64 x.a4,.int .u64 x.a5] 60)).mono HBy.out.size)).grown hgrow (Nat.le_trans HBy.out.size (by simp)) (fun g hg=>(hoa.lt g hg).1);have HB8:=qd hba;have HO8:=qd hown';clear hown' hgrow hat hoa hba)
         go_wp2_with fail
         go_roundw
         case rel=>exact ⟨k+1,rs++[x],by go_num,by omega,by omega,by simp;omega,qd (fun y hy=>by rcases List.mem_append.1 hy with hy|hy;exact HOk.out y hy;simp only [List.mem_singleton] at hy;subst hy;exact HXo.out),qd (by rw [List.length_append,List.flatMap_append];simpa using HO8.out),HB8⟩
         case measure=>simp [intOf];omega
      exact AllReadyH.nil
     exact AllReadyH.nil
  ·go_wp2_with fail
   go_ret
   exact recs_end HO.out (by omega) HOk.out HB0.out.size (HB0.out.trans (HB.out.mono HB0.out.size))
end Go.Proofs.YtcnebdjhhfnmoaaGreatDoor.Me
namespace Go.Proofs.YtcnebdjhhfnmoaaGreatDoor.Me
open Go.RowKit Go.WideElems
end Go.Proofs.YtcnebdjhhfnmoaaGreatDoor.Me
