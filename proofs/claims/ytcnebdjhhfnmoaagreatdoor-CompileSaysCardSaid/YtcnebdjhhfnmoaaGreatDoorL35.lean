/- What a policy says of a call: the program's way and the document's. -/
import Derived.Test.YtcnebdjhhfnmoaaGreatDoorL33
import Derived.Test.YtcnebdjhhfnmoaaGreatDoorL34
import Derived.WalkArith
import Derived.Test.YtcnebdjhhfnmoaaGreatDoorL22
import Derived.WalkMore
import Derived.Test.YtcnebdjhhfnmoaaGreatDoorL01
set_option maxHeartbeats 32000000
set_option maxRecDepth 100000
namespace Go.Proofs.YtcnebdjhhfnmoaaGreatDoor.Me
open Go.RowKit Go.WideElems
def saysR (d:Nat)(ms:List RuleM)(x:RcM):Nat:=if x.arch=3221225534 then bestA d (bestL x 0 ms none) else 2147483648
def RetU (n:Nat)(w:World)(e:Ending)(w':World):Prop:=e=.returned (.int .u32 n)∧Below w.heap.size w w'
theorem retu {n k:Nat}{w w':World}{e:Ending}(h:n=k)(he:e=.returned (.int .u32 k))(hb:Below w.heap.size w w'):RetU n w e w':=by subst h;exact ⟨he,hb⟩
theorem best_ok (ms:List RuleM)(x:RcM):BOk ms ms.length (bestL x 0 ms none):=by
 have key:∀(l:List RuleM) (k:Nat) (b:Option (Nat×Nat)),(∀i,l[i]?=ms[k+i]?)→BOk ms k b→BOk ms (k+l.length) (bestL x k l b):=by
  intro l
  induction l with
  | nil=>intro k b _ hb;exact hb
  | cons r l ih=>
   intro k b hl hb
   have h0:ms[k]?=some r:=(hl 0).symm
   have:=ih (k+1) (stepB x k r b) (fun i=>by have:=hl (i+1);rw [show k+1+i=k+(i+1) by omega,←this];rfl) (hb.step h0 x)
   rw [List.length_cons,show k+(l.length+1)=k+1+l.length by omega]
   exact this
 have:=key ms 0 none (fun i=>by rw [Nat.zero_add]) (BOk.nil ms)
 rwa [Nat.zero_add] at this
theorem says_any (nm:ByteArray)(d:Nat)(rules:List RuleV)(RA:Option Addr)(nR Rc hd:Nat)(PA:Option Addr)(nP Pc:Nat)(QA:Option Addr)(nQ Qc:Nat)(x:RcM)(w:World)(hn:rules.length=nR)(hl:nR≤1000)(hR:RRd w rules RA)(hx:x.ok) :
  Calls Tryz.prog 20 #[.agg #[.string nm,.int .u32 d,.slice RA nR Rc,.int .u16 hd,.slice PA nP Pc,.slice QA nQ Qc],.agg #[.int .u32 x.num,.int .u32 x.arch,.int .u64 x.at_,.int .u64 x.a0,.int .u64 x.a1,.int .u64 x.a2,.int .u64 x.a3,.int .u64 x.a4,.int .u64 x.a5]] w (RetU (saysR d (rules.map RuleV.m) x) w):=by
 obtain ⟨hk1,hk2,hb⟩:=two_new w #[.string nm,.int .u32 d,.slice RA nR Rc,.int .u16 hd,.slice PA nP Pc,.slice QA nQ Qc] #[.int .u32 x.num,.int .u32 x.arch,.int .u64 x.at_,.int .u64 x.a0,.int .u64 x.a1,.int .u64 x.a2,.int .u64 x.a3,.int .u64 x.a4,.int .u64 x.a5] 30 60 (la:=[.string nm,.int .u32 d,.slice RA nR Rc,.int .u16 hd,.slice PA nP Pc,.slice QA nQ Qc]) (lb:=x.cells) rfl rfl
 obtain ⟨ms,hms⟩:∃ms,ms=rules.map RuleV.m:=⟨_,rfl⟩
 have HS:=qd (fun W (h:Below w.heap.size w W)=>speaks_any nm d rules RA nR Rc hd PA nP Pc QA nQ Qc x W hn hl (hR.below h) hx)
 rw [←hms] at HS ⊢
 have HR:=qd (hR.below hb)
 have Hms:=qd hms
 have HN:=qd hn
 clear hR hms hn hx
 go_enter Tryz.func20,Tryz.ntmps20
 go_upto_region 1 with fail
 generalize (w.alloc _).alloc _=w2 at hk1 hk2 hb HR ⊢
 have HB0:=qd hb
 have hlt1:=hk1.lt
 have hlt2:=hk2.lt
 have HK1:=qd hk1
 have HK2:=qd hk2
 have q0:=hk1.cell 0 rfl
 have q1:=hk1.cell 1 rfl
 have q2:=hk1.cell 2 rfl
 have q3:=hk1.cell 3 rfl
 have q4:=hk1.cell 4 rfl
 have q5:=hk1.cell 5 rfl
 have y0:=hk2.cell 0 rfl
 have y1:=hk2.cell 1 rfl
 have y2:=hk2.cell 2 rfl
 have y3:=hk2.cell 3 rfl
 have y4:=hk2.cell 4 rfl
 have y5:=hk2.cell 5 rfl
 have y6:=hk2.cell 6 rfl
 have y7:=hk2.cell 7 rfl
 have y8:=hk2.cell 8 rfl
 clear hk1 hk2 hb
 by_cases ha:x.arch=3221225534
 ·have HV:=qd (show saysR d ms x=bestA d (bestL x 0 ms none) by unfold saysR;rw [if_pos ha])
  have e1:((x.arch:Int) != 3221225534)=false:=by rw [ha];decide
  clear ha
  go_wp2_with fail
  refine (HS.out _ HB0.out).mono ?_
  clear HS e1 q0 q1 q2 q3 q4 q5 y0 y1 y2 y3 y4 y5 y6 y7 y8
  rintro e w3 ⟨⟨A,c,rfl,-⟩,hb3⟩
  have HB3:=qd (HB0.out.trans (hb3.mono HB0.out.size))
  have p1:=(HK1.out.kept hb3).cell 1 rfl
  have p2:=(HK1.out.kept hb3).cell 2 rfl
  have pl:=(HK1.out.kept hb3).lt
  have HR3:=qd (HR.out.below hb3)
  have HBo:=qd (best_ok ms x)
  clear hb3
  obtain ⟨b,hbe⟩:∃b,b=bestL x 0 ms none:=⟨_,rfl⟩
  rw [←hbe] at HV HBo ⊢
  clear hbe
  cases b with
  | none=>
   unfold bestI
   go_wp2_with fail
   go_ret
   exact retu HV.out rfl HB3.out
  | some y=>
   obtain ⟨i,a⟩:=y
   obtain ⟨hik,ri,hri,hra⟩:=HBo.out (i,a) rfl
   simp only at hik hri hra
   have hin:i<nR:=by rw [Hms.out,List.length_map,HN.out] at hik;exact hik
   obtain ⟨rv,hrv,hrm⟩:∃rv,rules[i]?=some rv∧rv.m=ri:=by rw [Hms.out,List.getElem?_map] at hri;obtain ⟨rv,h1,h2⟩:=Option.map_eq_some_iff.1 hri;exact ⟨rv,h1,h2⟩
   have hrd:=HR3.out.r
   simp only [HN.out] at hrd
   obtain ⟨b2,o2,hA2,_,hc2⟩:=hrd.one (fun _=>rfl) (by omega) (by omega)
   subst hA2
   have p3:=(rule_cells hc2 hrv).2.1
   rw [hrm,hra] at p3
   clear hrd hc2 hrv hrm hri hra hik
   unfold bestI
   go_wp2_with fail
   go_ret
   exact retu HV.out rfl HB3.out
 ·have HV:=qd (show saysR d ms x=2147483648 by unfold saysR;rw [if_neg ha])
  have e1:((x.arch:Int) != 3221225534)=true:=by rw [bne_iff_ne];omega
  clear ha
  go_wp2_with fail
  go_ret
  exact retu HV.out rfl HB0.out
structure RRr (w:World)(rules:List RuleV)(A:Option Addr):Prop where
 r:Rd w 3 rules.length A (rules.flatMap RuleV.cells)
 c:∀x∈rules,Rd w 4 x.m.conds.length x.A (x.m.conds.flatMap CondM.rcells)
 ok:∀x∈rules,x.m.ok
theorem RRr.below {w w':World}{rules:List RuleV}{A:Option Addr}(h:RRr w rules A)(hb:Below w.heap.size w w'):RRr w' rules A:=⟨h.r.below hb,fun x hx=>(h.c x hx).below hb,h.ok⟩
theorem ref_found {x:RcM}{ms:List RuleM}{s:Nat}{r:RuleM}(d:Nat)(h1:∀t:Nat,(s:Int)<t→t≤3→firstS x t ms=none)(h2:firstS x s ms=some r):bestA d (bestL x 0 ms none)=r.act:=by
 cases hb:bestL x 0 ms none with
 | none=>
  have:=first_above x ⟨[],0,ms,0,[],[]⟩ (s:=s) (fun a ha=>by rw [hb] at ha;cases ha)
  rw [h2] at this;cases this
 | some y=>
  obtain ⟨r',hr,ha⟩:=first_at x ⟨[],0,ms,0,[],[]⟩ hb
  have hle:=Rec.strN_le y.2
  by_cases hs:Rec.strN y.2=s
  ·rw [hs,h2] at hr
   cases hr
   exact ha.symm
  ·by_cases hlt:s<Rec.strN y.2
   ·rw [h1 _ (by omega) hle] at hr;cases hr
   ·have:=first_above x ⟨[],0,ms,0,[],[]⟩ (s:=s) (fun a ha=>by rw [hb] at ha;cases ha;omega)
    rw [h2] at this;cases this
theorem ref_none {x:RcM}{ms:List RuleM}(d:Nat)(h1:∀t:Nat,(-1:Int)<t→t≤3→firstS x t ms=none):bestA d (bestL x 0 ms none)=d:=by
 cases hb:bestL x 0 ms none with
 | none=>rfl
 | some y=>
  obtain ⟨r',hr,ha⟩:=first_at x ⟨[],0,ms,0,[],[]⟩ hb
  rw [h1 _ (by omega) (Rec.strN_le y.2)] at hr;cases hr
end Go.Proofs.YtcnebdjhhfnmoaaGreatDoor.Me
namespace Go.Proofs.YtcnebdjhhfnmoaaGreatDoor.Ir
open Go.Proofs.YtcnebdjhhfnmoaaGreatDoor.Me
def HoldsAll (x:RcM)(l:List CondM):Bool:=l.all fun q=>holdB q x
theorem arg_lt {x:RcM}(hx:x.ok)(k:Nat):x.arg k<18446744073709551616:=by
 unfold RcM.arg RcM.args
 match k with
 | 0=>exact hx.a0
 | 1=>exact hx.a1
 | 2=>exact hx.a2
 | 3=>exact hx.a3
 | 4=>exact hx.a4
 | 5=>exact hx.a5
 | _+6=>simp
theorem never_no {c:CondM}{x:RcM}(hx:x.ok)(h:neverB c=true):holdB c x=false:=by
 have ha:=arg_lt hx c.arg.toNat
 unfold neverB at h
 rw [decide_eq_true_eq] at h
 unfold holdB
 split
 ·rfl
 ·rcases h with ⟨h1,h2⟩|⟨h1,h2⟩<;>unfold opB<;>simp [h1,h2]<;>omega
theorem always_yes {c:CondM}{x:RcM}(hx:x.ok)(h:alwaysB c=true):holdB c x=true:=by
 have ha:=arg_lt hx c.arg.toNat
 unfold alwaysB at h
 rw [decide_eq_true_eq] at h
 obtain ⟨g1,g2,h⟩:=h
 unfold holdB
 rw [if_neg (by omega)]
 rcases h with ⟨h1,h2⟩|⟨h1,h2⟩<;>unfold opB<;>simp [h1,h2]<;>omega
theorem eq_hold {c:CondM}{x:RcM}(ho:c.op=1)(h:holdB c x=true):x.arg c.arg.toNat=c.val:=by
 unfold holdB at h
 split at h
 ·cases h
 ·unfold opB at h;rw [if_pos ho] at h;exact of_decide_eq_true h
theorem need_hold {x:RcM}(hx:x.ok):∀(l:List CondM) (E:List (Int×Nat)) (left:List CondM),(∀e∈E,HoldsAll x left=true→x.arg e.1.toNat=e.2)→(∀e∈E,∃c∈left,c.op=1∧c.arg=e.1∧c.val=e.2) →
  match needF E left l with
  | none=>(HoldsAll x left&&HoldsAll x l)=false
  | some r=>HoldsAll x r=(HoldsAll x left&&HoldsAll x l)
 | [],E,left,_,_=>by simp [needF,HoldsAll]
 | c::r,E,left,hE,hE2=>by
  unfold needF
  by_cases hn:neverB c=true
  ·rw [if_pos hn]
   simp [HoldsAll,never_no hx hn]
  ·rw [if_neg hn]
   have hstep:HoldsAll x (if c∈left∨alwaysB c=true then left else left++[c])=(HoldsAll x left&&holdB c x):=by
    by_cases hc:c∈left∨alwaysB c=true
    ·rw [if_pos hc]
     rcases hc with hc|hc
     ·cases h:HoldsAll x left with
      | false=>rfl
      | true=>rw [Bool.true_and];exact (List.all_eq_true.1 h c hc).symm
     ·rw [always_yes hx hc,Bool.and_true]
    ·rw [if_neg hc];simp [HoldsAll]
   have hsp:(HoldsAll x left&&HoldsAll x (c::r))=(HoldsAll x (if c∈left∨alwaysB c=true then left else left++[c])&&HoldsAll x r):=by
    rw [hstep];simp [HoldsAll,Bool.and_assoc]
   have hal:c.op=1→alwaysB c=false:=fun ho=>by unfold alwaysB;rw [decide_eq_false_iff_not];omega
   by_cases ho:c.op=1
   ·rw [if_pos ho]
    by_cases hm:(c.arg,c.val)∈E∨∀e∈E,e.1≠c.arg
    ·rw [if_pos hm,hsp]
     have hin:c∈(if c∈left∨alwaysB c=true then left else left++[c]):=by
      by_cases hc:c∈left∨alwaysB c=true
      ·rw [if_pos hc];rcases hc with hc|hc
       ·exact hc
       ·rw [hal ho] at hc;cases hc
      ·rw [if_neg hc];simp
     have hsub:∀d∈left,d∈(if c∈left∨alwaysB c=true then left else left++[c]):=fun d hd=>by
      by_cases hc:c∈left∨alwaysB c=true
      ·rw [if_pos hc];exact hd
      ·rw [if_neg hc];exact List.mem_append_left _ hd
     refine need_hold hx r _ _ (fun e he hh=>?_) (fun e he=>?_)
     ·rcases List.mem_append.1 he with he|he
      ·exact hE e he (List.all_eq_true.2 fun d hd=>List.all_eq_true.1 hh d (hsub d hd))
      ·obtain rfl:=List.mem_singleton.1 he
       exact eq_hold ho (List.all_eq_true.1 hh c hin)
     ·rcases List.mem_append.1 he with he|he
      ·obtain ⟨d,hd,h⟩:=hE2 e he
       exact ⟨d,hsub d hd,h⟩
      ·obtain rfl:=List.mem_singleton.1 he
       exact ⟨c,hin,ho,rfl,rfl⟩
    ·rw [if_neg hm]
     simp only
     cases hL:HoldsAll x left with
     | false=>rfl
     | true=>
      cases hc:holdB c x with
      | false=>simp [HoldsAll,hc]
      | true=>
       exfalso
       apply hm
       by_cases h1:∀e∈E,e.1≠c.arg
       ·exact Or.inr h1
       ·obtain ⟨e,h3⟩:=Classical.not_forall.1 h1
        obtain ⟨h4,h5⟩:=Classical.not_imp.1 h3
        have h6:e.1=c.arg:=Classical.not_not.1 h5
        have h7:=hE e h4 hL
        rw [h6,eq_hold ho hc] at h7
        exact Or.inl (by rw [←h6,h7];exact h4)
   ·rw [if_neg ho,hsp]
    have hsub:∀d∈left,d∈(if c∈left∨alwaysB c=true then left else left++[c]):=fun d hd=>by
     by_cases hc:c∈left∨alwaysB c=true
     ·rw [if_pos hc];exact hd
     ·rw [if_neg hc];exact List.mem_append_left _ hd
    refine need_hold hx r _ _ (fun e he hh=>?_) (fun e he=>?_)
    ·exact hE e he (List.all_eq_true.2 fun d hd=>List.all_eq_true.1 hh d (hsub d hd))
    ·obtain ⟨d,hd,h⟩:=hE2 e he
     exact ⟨d,hsub d hd,h⟩
theorem need_is {x:RcM}(hx:x.ok)(l:List CondM):match needF [] [] l with|none=>HoldsAll x l=false|some r=>HoldsAll x r=HoldsAll x l:=by
 have h:=need_hold hx l [] [] (by simp) (by simp)
 cases hF:needF [] [] l with
 | none=>rw [hF] at h;simpa [HoldsAll] using h
 | some r=>rw [hF] at h;simpa [HoldsAll] using h
def brS (x:RcM)(l:List BrM):Option Nat:=(l.find? fun b=>HoldsAll x b.conds).map BrM.act
def ruS (x:RcM)(l:List RuleM):Option Nat:=(l.find? fun r=>HoldsAll x r.conds).map RuleM.act
theorem full_some {x:RcM}{l:List BrM}(h:fullB l=true):(brS x l).isSome=true:=by
 unfold fullB at h
 cases hl:l.getLast? with
 | none=>rw [hl] at h;cases h
 | some b=>
  rw [hl] at h
  have hb:=List.mem_of_getLast? hl
  have hc:b.conds=[]:=by simpa using h
  unfold brS
  rw [Option.isSome_map,List.find?_isSome]
  exact ⟨b,hb,by rw [hc];rfl⟩
theorem add_says {x:RcM}(hx:x.ok)(l:List BrM)(r:RuleM):brS x (addF l r)=(brS x l).or (if HoldsAll x r.conds then some r.act else none):=by
 unfold addF
 by_cases hf:fullB l=true
 ·rw [if_pos hf]
  obtain ⟨a,ha⟩:=Option.isSome_iff_exists.1 (full_some (x:=x) hf)
  rw [ha];rfl
 ·rw [if_neg hf]
  have h:=need_is hx r.conds
  cases hF:needF [] [] r.conds with
  | none=>rw [hF] at h;simp only at h;rw [h];simp
  | some left=>
   rw [hF] at h
   simp only at h
   show brS x (l++[⟨left,r.act⟩])=_
   unfold brS
   rw [List.find?_append,Option.map_or]
   congr 1
   simp only [List.find?_cons,List.find?_nil,h]
   cases HoldsAll x r.conds<;>rfl
theorem fold_says {x:RcM}(hx:x.ok):∀(rs:List RuleM) (l:List BrM),brS x (rs.foldl addF l)=(brS x l).or (ruS x rs)
 | [],l=>by simp [ruS]
 | r::t,l=>by
  rw [List.foldl_cons,fold_says hx t,add_says hx,Option.or_assoc]
  congr 1
  unfold ruS
  rw [List.find?_cons]
  cases HoldsAll x r.conds<;>rfl
end Go.Proofs.YtcnebdjhhfnmoaaGreatDoor.Ir
namespace Go.Proofs.YtcnebdjhhfnmoaaGreatDoor.Ir
open Go.Proofs.YtcnebdjhhfnmoaaGreatDoor.Me
def rulesOf (n:Nat)(l:List RuleM):List RuleM:=l.filter fun r=>decide (r.num=n)
theorem rulesOf_snoc (n:Nat)(l:List RuleM)(r:RuleM):rulesOf n (l++[r])=if r.num=n then rulesOf n l++[r] else rulesOf n l:=by
 unfold rulesOf
 rw [List.filter_append]
 by_cases h:r.num=n<;>simp [h]
def StI (l:List RuleM):Option (List CaM×Nat×List BrM)→Prop
 | none=>l=[]
 | some (cs,num,lb)=>(∃r∈l,r.num=num)∧(∀r∈l,r.num≤num)∧lb=(rulesOf num l).foldl addF []∧(∀c∈cs,c.num<num∧(∃r∈l,r.num=c.num)∧c.brs=(rulesOf c.num l).foldl addF [])∧cs.Pairwise (fun a b=>a.num<b.num)∧∀r∈l,r.num=num∨∃c∈cs,c.num=r.num
theorem st_step {l:List RuleM}{s:Option (List CaM×Nat×List BrM)}{r:RuleM}(h:StI l s)(hr:∀q∈l,q.num≤r.num):StI (l++[r]) (stF s r):=by
 cases s with
 | none=>
  have h0:l=[]:=h
  subst h0
  refine ⟨⟨r,by simp,rfl⟩,by simp,?_,by simp,List.Pairwise.nil,by simp⟩
  rw [rulesOf_snoc,if_pos rfl];rfl
 | some x=>
  obtain ⟨cs,num,lb⟩:=x
  obtain ⟨⟨q,hq,hqn⟩,h2,h3,h4,h5,h6⟩:=h
  by_cases hn:r.num=num
  ·have e:stF (some (cs,num,lb)) r=some (cs,num,addF lb r):=if_pos hn
   rw [e]
   refine ⟨⟨r,by simp,hn⟩,fun p hp=>?_,?_,fun c hc=>?_,h5,fun p hp=>?_⟩
   ·rcases List.mem_append.1 hp with hp|hp
    ·exact h2 p hp
    ·rw [List.mem_singleton.1 hp];omega
   ·rw [rulesOf_snoc,if_pos hn,List.foldl_append,←h3];rfl
   ·obtain ⟨g1,⟨p,g2,g3⟩,g4⟩:=h4 c hc
    refine ⟨g1,⟨p,List.mem_append_left _ g2,g3⟩,?_⟩
    rw [rulesOf_snoc,if_neg (by omega)];exact g4
   ·rcases List.mem_append.1 hp with hp|hp
    ·exact h6 p hp
    ·rw [List.mem_singleton.1 hp];exact Or.inl hn
  ·have hlt:num<r.num:=by have:=hr q hq;omega
   have e:stF (some (cs,num,lb)) r=some (cs++[⟨num,lb⟩],r.num,addF [] r):=if_neg hn
   rw [e]
   have hno:rulesOf r.num l=[]:=List.filter_eq_nil_iff.2 fun p hp=>by have:=h2 p hp;simp only [decide_eq_true_eq];omega
   refine ⟨⟨r,by simp,rfl⟩,fun p hp=>?_,?_,fun c hc=>?_,?_,fun p hp=>?_⟩
   ·rcases List.mem_append.1 hp with hp|hp
    ·have:=h2 p hp;omega
    ·rw [List.mem_singleton.1 hp];omega
   ·rw [rulesOf_snoc,if_pos rfl,hno];rfl
   ·rcases List.mem_append.1 hc with hc|hc
    ·obtain ⟨g1,⟨p,g2,g3⟩,g4⟩:=h4 c hc
     refine ⟨by omega,⟨p,List.mem_append_left _ g2,g3⟩,?_⟩
     rw [rulesOf_snoc,if_neg (by omega)];exact g4
    ·rw [List.mem_singleton.1 hc]
     refine ⟨hlt,⟨q,List.mem_append_left _ hq,hqn⟩,?_⟩
     show lb=_
     rw [rulesOf_snoc,if_neg (by simp only;omega)];exact h3
   ·rw [List.pairwise_append]
    refine ⟨h5,List.pairwise_singleton _ _,fun a ha b hb=>?_⟩
    rw [List.mem_singleton.1 hb];exact (h4 a ha).1
   ·rcases List.mem_append.1 hp with hp|hp
    ·rcases h6 p hp with g|⟨c,g1,g2⟩
     ·exact Or.inr ⟨⟨num,lb⟩,by simp,g.symm⟩
     ·exact Or.inr ⟨c,List.mem_append_left _ g1,g2⟩
    ·rw [List.mem_singleton.1 hp];exact Or.inl rfl
theorem st_fold:∀(t l:List RuleM)(s:Option (List CaM×Nat×List BrM)),StI l s→(l++t).Pairwise (fun a b=>a.num≤b.num)→StI (l++t) (t.foldl stF s)
 | [],l,s,h,_=>by simpa using h
 | r::t,l,s,h,hp=>by
  have e:l++r::t=(l++[r])++t:=by simp
  rw [e] at hp ⊢
  exact st_fold t (l++[r]) _ (st_step h fun q hq=>(List.pairwise_append.1 (List.pairwise_append.1 hp).1).2.2 q hq r (by simp)) hp
theorem of_cases {l:List RuleM}(hp:l.Pairwise (fun a b=>a.num≤b.num)):(ofF l).Pairwise (fun a b=>a.num<b.num)∧(∀c∈ofF l,(∃r∈l,r.num=c.num)∧c.brs=(rulesOf c.num l).foldl addF [])∧∀r∈l,∃c∈ofF l,c.num=r.num:=by
 have h:=st_fold l [] none rfl (by simpa using hp)
 rw [List.nil_append] at h
 unfold ofF
 cases hs:l.foldl stF none with
 | none=>rw [hs] at h;have h0:l=[]:=h;subst h0;exact ⟨List.Pairwise.nil,by simp [stE],by simp⟩
 | some x=>
  obtain ⟨cs,num,lb⟩:=x
  rw [hs] at h
  obtain ⟨h1,h2,h3,h4,h5,h6⟩:=h
  refine ⟨List.pairwise_append.2 ⟨h5,List.pairwise_singleton _ _,fun a ha b hb=>?_⟩,fun c hc=>?_,fun r hr=>?_⟩
  ·rw [List.mem_singleton.1 hb];exact (h4 a ha).1
  ·rcases List.mem_append.1 hc with hc|hc
   ·exact (h4 c hc).2
   ·rw [List.mem_singleton.1 hc];exact ⟨h1,h3⟩
  ·rcases h6 r hr with g|⟨c,g1,g2⟩
   ·exact ⟨⟨num,lb⟩,by simp [stE],g.symm⟩
   ·exact ⟨c,List.mem_append_left _ g1,g2⟩
theorem sorted_num {ms l:List RuleM}(h:Sorted ms l):l.Pairwise (fun a b=>a.num≤b.num):=h.srt.imp fun {a b} hab=>by
 rw [ord_lt] at hab;omega
theorem sorted_first {ms l:List RuleM}(h:Sorted ms l)(x:RcM)(s:Nat):firstS x s l=firstS x s ms:=by
 have key:∀q:List RuleM,firstS x s q=(q.filter fun r=>decide (r.num=x.num∧Rec.strN r.act=s)).find? fun r=>matB r x:=fun q=>by
  unfold firstS
  rw [List.find?_filter]
  congr 1
  funext r
  unfold matB
  rw [Bool.eq_iff_iff]
  simp only [Bool.and_eq_true,decide_eq_true_eq]
  exact ⟨fun ⟨a,b,c⟩=>⟨⟨b,a⟩,b,c⟩,fun ⟨⟨a,b⟩,_,c⟩=>⟨b,a,c⟩⟩
 rw [key,key,h.stab]
theorem sorted_hit {ms l:List RuleM}(h:Sorted ms l)(x:RcM)(d:Nat):((l.find? fun r=>matB r x).map RuleM.act).getD d=bestA d (bestL x 0 ms none):=by
 cases hf:l.find? fun r=>matB r x with
 | none=>
  have hno:=List.find?_eq_none.1 hf
  refine (ref_none d fun t _ _=>?_).symm
  rw [←sorted_first h x t]
  unfold firstS
  rw [List.find?_eq_none]
  intro r hr hc
  rw [Bool.and_eq_true] at hc
  exact hno r hr hc.2
 | some r=>
  obtain ⟨hm,us,vs,hl,has⟩:=List.find?_eq_some_iff_append.1 hf
  have hsrt:=h.srt
  rw [hl] at hsrt
  obtain ⟨_,p2,_⟩:=List.pairwise_append.1 hsrt
  have p3:=(List.pairwise_cons.1 p2).1
  have hrn:r.num=x.num:=by unfold matB at hm;simp at hm;exact hm.1
  refine (ref_found (s:=Rec.strN r.act) d (fun t ht _=>?_) ?_).symm
  ·rw [←sorted_first h x t]
   unfold firstS
   rw [List.find?_eq_none]
   intro q hq hc
   rw [Bool.and_eq_true,decide_eq_true_eq] at hc
   rw [hl] at hq
   rcases List.mem_append.1 hq with hq|hq
   ·have:=has q hq;rw [hc.2] at this;simp at this
   ·rcases List.mem_cons.1 hq with rfl|hq
    ·omega
    ·apply p3 q hq
     rw [ord_lt]
     have hqn:q.num=x.num:=by have:=hc.2;unfold matB at this;simp at this;exact this.1
     exact Or.inr ⟨by omega,by omega⟩
  ·rw [←sorted_first h x _]
   unfold firstS
   rw [List.find?_eq_some_iff_append]
   exact ⟨by simp [hm],us,vs,hl,fun q hq=>by have:=has q hq;simp only [Bool.not_eq_true'] at this ⊢;rw [this,Bool.and_false]⟩
theorem rulesOf_says (x:RcM)(l:List RuleM):ruS x (rulesOf x.num l)=(l.find? fun r=>matB r x).map RuleM.act:=by
 unfold ruS rulesOf
 rw [List.find?_filter]
 congr 2
 funext r
 unfold matB HoldsAll
 rw [Bool.eq_iff_iff]
 simp only [Bool.and_eq_true,decide_eq_true_eq]
theorem plan_says {ms l:List RuleM}(h:Sorted ms l){x:RcM}(hx:x.ok)(d:Nat):(∀c∈ofF l,c.num=x.num→(brS x c.brs).getD d=bestA d (bestL x 0 ms none))∧((∀c∈ofF l,c.num≠x.num)→d=bestA d (bestL x 0 ms none)):=by
 obtain ⟨_,h2,h3⟩:=of_cases (sorted_num h)
 refine ⟨fun c hc hcx=>?_,fun hno=>?_⟩
 ·rw [(h2 c hc).2,hcx,fold_says hx,rulesOf_says]
  show (((l.find? fun r=>matB r x).map RuleM.act)).getD d=_
  exact sorted_hit h x d
 ·rw [←sorted_hit h x d,List.find?_eq_none.2 (fun r hr hm=>?_)]
  ·rfl
  ·obtain ⟨c,hc,hcn⟩:=h3 r hr
   have:r.num=x.num:=by unfold matB at hm;simp at hm;exact hm.1
   exact hno c hc (hcn.trans this)
end Go.Proofs.YtcnebdjhhfnmoaaGreatDoor.Ir
namespace Go.Proofs.YtcnebdjhhfnmoaaGreatDoor.Ir
open Go.RowKit Go.WideElems
theorem casecmp_any (c:CaV)(x:Nat)(w:World):Calls Tryz.prog 133 #[.agg #[.int .u32 c.num,.slice c.A c.brs.length c.cap],.int .u32 x] w fun e w'=>e=.returned (.int .i64 (if (c.num:Int)<(x:Int) then -1 else if (x:Int)<(c.num:Int) then 1 else 0))∧Below w.heap.size w w':=by
 have hc:=compare_any (c.num:Int) (x:Int)
 generalize (if (c.num:Int)<(x:Int) then (-1:Int) else if (x:Int)<(c.num:Int) then 1 else 0)=r at hc ⊢
 generalize c.brs.length=n
 go_enter Tryz.func133,Tryz.ntmps133
 go_wp2_with (go_at_call 101;refine (hc _).mono ?_;rintro e w1 ⟨rfl,rfl⟩)
 go_ret
 exact ⟨rfl,oneb _ _⟩
theorem case_cells {w:World}{b o k:Nat}{l:List CaV}{x:CaV}(hc:∀k x,l[k]?=some x→∀j v,(CaV.cells x)[j]?=some v→w.cell? ⟨b,o+(k*2+j),none⟩=some v)(h:l[k]?=some x) :
  w.cell? ⟨b,o+k*2,none⟩=some (.int .u32 x.num)∧w.cell? ⟨b,o+k*2+1,none⟩=some (.slice x.A x.brs.length x.cap):=
 ⟨by have:=hc k x h 0 _ rfl;simpa using this,by have:=hc k x h 1 _ rfl;simpa [Nat.add_assoc] using this⟩
theorem search_any (cs:List CaV)(n:Nat)(A:Option Addr)(cap x:Nat)(w:World)(hn:cs.length=n)(hl:n≤100000)(hs:∀(i j:Nat)(c d:CaV),i<j→cs[i]?=some c→cs[j]?=some d→c.num<d.num)(hR:Rd w 2 n A (cs.flatMap CaV.cells)) :
  Calls Tryz.prog 132 #[.slice A n cap,.int .u32 x,.func (.func 133) #[] #[]] w fun e w'=>Below w.heap.size w w'∧∃(i:Nat) (f:Bool),e=.returned (.tuple #[.int .i64 i,.bool f])∧(f=true→∃c,cs[i]?=some c∧c.num=x)∧(f=false→∀c∈cs,c.num≠x):=by
 have eg:∀args w,(callFunc 133 args).run Tryz.prog w=.ok (.enter 133 args) w:=enters_of Tryz.func133 (by kernel_rfl) rfl
 have HN:=qd hn
 have HS:=qd hs
 have HR:=qd hR
 clear hn hs hR
 go_enter Tryz.func132,Tryz.ntmps132
 go_wp2_with fail
 go_loopw [9,10] (fun iv jv wr=>∃i j:Nat,iv=.int .i64 i∧jv=.int .i64 j∧i≤j∧j≤n∧Hid (∀k c,k<i→cs[k]?=some c→c.num<x)∧Hid (∀k c,j≤k→cs[k]?=some c→x≤c.num)∧Hid (Below w.heap.size w wr)) (fun iv jv _=>(intOf jv).toNat-(intOf iv).toNat)
 case atStart=>exact ⟨0,n,rfl,rfl,Nat.zero_le _,Nat.le_refl _,qd (fun k c h=>absurd h (Nat.not_lt_zero k)),qd (fun k c h hc=>by have:=(List.getElem?_eq_some_iff.1 hc).1;have:=HN.out;omega),qd (Below.refl _ _)⟩
 case round=>
  obtain ⟨i,j,rfl,rfl,hij,hj,HI,HJ,HB⟩:=hrel
  by_cases hlt:i<j
  ·obtain ⟨h,hh⟩:∃h,h=(i+j) / 2:=⟨_,rfl⟩
   have zh:((i:Int)+(j:Int)) / 2=(h:Int):=by omega
   obtain ⟨c,hc⟩:∃c,cs[h]?=some c:=⟨_,List.getElem?_eq_getElem (by have:=HN.out;omega)⟩
   obtain ⟨b,o,hA,hbl,hcell⟩:=(HR.out.below HB.out).one (f:=CaV.cells) (fun _=>rfl) (by omega) (by omega)
   subst hA
   obtain ⟨c0,c1⟩:=case_cells hcell hc
   have hcl:=casecmp_any c x
   have HC:=qd hc
   have hhi:(h:Int)<(n:Int):=by omega
   have hh1:i≤h:=by omega
   have hh2:h<j:=by omega
   clear hcell hc
   have tu:=Tryz.underlying235
   have wu:IntKind.u64.wrap ((i:Int)+(j:Int))=(i:Int)+(j:Int):=by rw [IntKind.wrap_u64];omega
   clear hh
   go_upto_region 5 with fail
   clear tu wu zh
   by_cases hv:c.num<x
   ·rw [if_pos (show (c.num:Int)<(x:Int) by omega)] at hcl
    have HI2:=qd (show ∀k c',k<h+1→cs[k]?=some c'→c'.num<x from fun k c' hk hc'=>by
     by_cases hkh:k=h
     ·subst hkh;rw [HC.out] at hc';cases hc';exact hv
     ·exact Nat.lt_trans (HS.out k h c' c (by omega) hc' HC.out) hv)
    have HCL:=qd hcl
    clear hv hcl
    go_wp2_with (go_at_fn 133;refine (HCL.out _).mono ?_;rintro e w3 ⟨rfl,hb3⟩;have HB3:=qd (HB.out.trans (hb3.mono HB.out.size));clear hb3)
    go_roundw
    case rel=>exact ⟨h+1,j,by go_num,rfl,by omega,hj,HI2,HJ,HB3⟩
    case measure=>simp [intOf];omega
   ·rw [if_neg (show ¬(c.num:Int)<(x:Int) by omega)] at hcl
    obtain ⟨r,hr⟩:∃r:Int,r=(if (x:Int)<(c.num:Int) then 1 else 0):=⟨_,rfl⟩
    rw [←hr] at hcl
    have hr0:¬r<0:=by rw [hr];split<;>omega
    have HJ2:=qd (show ∀k c',h≤k→cs[k]?=some c'→x≤c'.num from fun k c' hk hc'=>by
     by_cases hkh:k=h
     ·subst hkh;rw [HC.out] at hc';cases hc';omega
     ·have:=HS.out h k c c' (by omega) HC.out hc';omega)
    have HCL:=qd hcl
    clear hv hcl hr
    go_wp2_with (go_at_fn 133;refine (HCL.out _).mono ?_;rintro e w3 ⟨rfl,hb3⟩;have HB3:=qd (HB.out.trans (hb3.mono HB.out.size));clear hb3)
    go_roundw
    case rel=>exact ⟨i,h,rfl,by go_num,hh1,by omega,HI,HJ2,HB3⟩
    case measure=>simp [intOf];omega
  ·obtain rfl:i=j:=by omega
   by_cases hin:i<n
   ·obtain ⟨c,hc⟩:∃c,cs[i]?=some c:=⟨_,List.getElem?_eq_getElem (by have:=HN.out;omega)⟩
    obtain ⟨b,o,hA,hbl,hcell⟩:=(HR.out.below HB.out).one (f:=CaV.cells) (fun _=>rfl) (by omega) (by omega)
    subst hA
    obtain ⟨c0,c1⟩:=case_cells hcell hc
    have hge:=HJ.out i c (Nat.le_refl _) hc
    have hcl:=casecmp_any c x
    rw [if_neg (show ¬(c.num:Int)<(x:Int) by omega)] at hcl
    obtain ⟨r,hr⟩:∃r:Int,r=(if (x:Int)<(c.num:Int) then 1 else 0):=⟨_,rfl⟩
    rw [←hr] at hcl
    have HF:=qd (show ((r==0)=true→∃c,cs[i]?=some c∧c.num=x)∧((r==0)=false→∀c∈cs,c.num≠x) by
     refine ⟨fun h=>⟨c,hc,?_⟩,fun h d hd e=>?_⟩
     ·rw [beq_iff_eq,hr] at h
      by_cases hq:(x:Int)<(c.num:Int)
      ·rw [if_pos hq] at h;omega
      ·omega
     ·rw [beq_eq_false_iff_ne,hr] at h
      have hq:(x:Int)<(c.num:Int):=by
       by_cases hq:(x:Int)<(c.num:Int)
       ·exact hq
       ·rw [if_neg hq] at h;omega
      obtain ⟨k,hk⟩:=List.getElem?_of_mem hd
      rcases Nat.lt_trichotomy k i with h1|h1|h1
      ·have:=HI.out k d h1 hk;omega
      ·subst h1;rw [hc] at hk;cases hk;omega
      ·have:=HS.out i k c d h1 hc hk;omega)
    have HCL:=qd hcl
    clear hcell hc hge hcl hr
    go_wp2_with (go_at_fn 133;refine (HCL.out _).mono ?_;rintro e w3 ⟨rfl,hb3⟩;have HB3:=qd (HB.out.trans (hb3.mono HB.out.size));clear hb3)
    go_ret2
    exact ⟨HB3.out,i,r==0,rfl,HF.out.1,HF.out.2⟩
   ·go_wp2_with fail
    go_ret2
    refine ⟨HB.out,i,false,rfl,(fun h=>by cases h),fun _ c hc e=>?_⟩
    obtain ⟨k,hk⟩:=List.getElem?_of_mem hc
    have h1:=(List.getElem?_eq_some_iff.1 hk).1
    have h2:=HN.out
    have h3:=HI.out k c (by omega) hk
    omega
end Go.Proofs.YtcnebdjhhfnmoaaGreatDoor.Ir
namespace Go.Proofs.YtcnebdjhhfnmoaaGreatDoor.Ir
open Go.RowKit Go.WideElems Go.Proofs.YtcnebdjhhfnmoaaGreatDoor.Me
def Asc (cs:List CaV):Prop:=∀(i j:Nat) (c d:CaV),i<j→cs[i]?=some c→cs[j]?=some d→c.num<d.num
theorem branches_any (cs:List CaV)(n:Nat)(A:Option Addr)(cap d x:Nat)(w:World)(hn:cs.length=n)(hl:n≤100000)(hs:Asc cs)(hR:Rd w 2 n A (cs.flatMap CaV.cells)) :
  Calls Tryz.prog 91 #[.agg #[.slice A n cap,.int .u32 d],.int .u32 x] w fun e w'=>Below w.heap.size w w'∧∃B k c9,e=.returned (.slice B k c9)∧((∃c∈cs,c.num=x∧B=c.A∧k=c.brs.length)∨((∀c∈cs,c.num≠x)∧B=none∧k=0)):=by
 have hbx:Bk (w.alloc (.cells #[.slice A n cap,.int .u32 d] 71)) w.heap.size 71 [.slice A n cap,.int .u32 d]:=Bk.new _ _ _ rfl
 have hb:=oneb w (.cells #[.slice A n cap,.int .u32 d] 71)
 have HR:=qd (hR.below hb)
 have HB0:=qd hb
 have HN:=qd hn
 have HS:=qd hs
 go_enter Tryz.func91,Tryz.ntmps91
 go_upto_region 1 with fail
 generalize w.alloc _=w2 at hbx hb HR HB0 ⊢
 have HBx:=qd hbx
 have k0:=hbx.cell 0 rfl
 have kl:=hbx.lt
 have HSe:=qd (fun W (h:Below w2.heap.size w2 W)=>search_any cs n A cap x W HN.out hl HS.out (HR.out.below h))
 clear hR hn hs hb hbx
 go_wp2_with fail
 refine (HSe.out _ (Below.refl _ _)).mono ?_
 clear HSe k0
 rintro e w3 ⟨hb3,i,f,rfl,h1,h2⟩
 have HB3:=qd (HB0.out.trans (hb3.mono HB0.out.size))
 have k0:=(HBx.out.kept hb3).cell 0 rfl
 have kl:=(HBx.out.kept hb3).lt
 have HR3:=qd (HR.out.below hb3)
 clear hb3
 cases f with
 | true=>
  obtain ⟨c,hc,hx⟩:=h1 rfl
  have hi:i<n:=by have:=(List.getElem?_eq_some_iff.1 hc).1;rw [HN.out] at this;exact this
  obtain ⟨b,o,hA,hbl,hcell⟩:=HR3.out.one (f:=CaV.cells) (fun _=>rfl) (by omega) (by omega)
  subst hA
  obtain ⟨c0,c1⟩:=case_cells hcell hc
  have HC:=qd (show c∈cs∧c.num=x from ⟨List.mem_of_getElem? hc,hx⟩)
  clear h1 h2 hc hx hcell
  go_wp2_with fail
  go_ret
  exact ⟨HB3.out,_,_,_,rfl,Or.inl ⟨c,HC.out.1,HC.out.2,rfl,rfl⟩⟩
 | false=>
  have H2:=qd (h2 rfl)
  clear h1 h2
  go_wp2_with fail
  go_ret
  exact ⟨HB3.out,_,_,_,rfl,Or.inr ⟨H2.out,rfl,rfl⟩⟩
def allH (x:RcM)(b:BrV):Bool:=b.m.conds.all fun q=>holdB q x
def brF (d:Nat)(brs:List BrV)(x:RcM):Nat:=match brs.find? (allH x) with|some b=>b.m.act|none=>d
theorem find_on {brs:List BrV}{x:RcM}{i:Nat}{b:BrV}(h:∀c∈brs.take i,allH x c=false)(hb:brs[i]?=some b)(hf:allH x b=false):∀c∈brs.take (i+1),allH x c=false:=by
 intro y hy
 rw [List.take_add_one,hb] at hy
 rcases List.mem_append.1 hy with hy|hy
 ·exact h y hy
 ·simp only [Option.toList_some,List.mem_singleton] at hy;subst hy;exact hf
theorem brF_end {d:Nat}{brs:List BrV}{x:RcM}{i:Nat}(h:∀c∈brs.take i,allH x c=false)(hi:brs.length≤i):brF d brs x=d:=by
 rw [List.take_of_length_le hi] at h
 unfold brF
 rw [List.find?_eq_none.2 (fun c hc=>by rw [h c hc];decide)]
theorem brF_hit {d:Nat}{brs:List BrV}{x:RcM}{i:Nat}{b:BrV}(h:∀c∈brs.take i,allH x c=false)(hb:brs[i]?=some b)(hf:allH x b=true):brF d brs x=b.m.act:=by
 unfold brF
 have e:brs=brs.take i++b::brs.drop (i+1):=by
  have h1:=(List.getElem?_eq_some_iff.1 hb)
  obtain ⟨h2,h3⟩:=h1
  conv=>lhs;rw [←List.take_append_drop i brs]
  rw [List.drop_eq_getElem_cons h2,h3]
 rw [e,List.find?_append,List.find?_eq_none.2 (fun c hc=>by rw [h c hc];decide),List.find?_cons_of_pos hf]
 rfl
def DecR (d:Nat)(cs:List CaV)(x:RcM)(r:Nat):Prop:=(x.arch≠3221225534∧r=2147483648)∨(x.arch=3221225534∧((∃c∈cs,c.num=x.num∧r=brF d c.brs x)∨((∀c∈cs,c.num≠x.num)∧r=d)))
def DecPost (d:Nat)(cs:List CaV)(x:RcM)(w:World)(e:Ending)(w':World):Prop:=∃r:Nat,e=.returned (.int .u32 r)∧Below w.heap.size w w'∧DecR d cs x r
theorem br_cells2 {w:World}{b o k:Nat}{l:List BrV}{x:BrV}(hc:∀k x,l[k]?=some x→∀j v,(BrV.cells x)[j]?=some v→w.cell? ⟨b,o+(k*2+j),none⟩=some v)(h:l[k]?=some x) :
  w.cell? ⟨b,o+k*2,none⟩=some (.slice x.A x.m.conds.length x.cap)∧w.cell? ⟨b,o+k*2+1,none⟩=some (.int .u32 x.m.act):=
 ⟨by have:=hc k x h 0 _ rfl;simpa using this,by have:=hc k x h 1 _ rfl;simpa [Nat.add_assoc] using this⟩
theorem decide_any (cs:List CaV)(n:Nat)(A:Option Addr)(cap d:Nat)(x:RcM)(w:World)(hn:cs.length=n)(hl:n≤100000)(hs:Asc cs)(hP:PlanR w A cs)(hbl:∀c∈cs,c.brs.length≤100000∧∀b∈c.brs,b.m.conds.length≤100000∧∀q∈b.m.conds,q.ok)(hx:x.ok) :
  Calls Tryz.prog 48 #[.agg #[.slice A n cap,.int .u32 d],.agg #[.int .u32 x.num,.int .u32 x.arch,.int .u64 x.at_,.int .u64 x.a0,.int .u64 x.a1,.int .u64 x.a2,.int .u64 x.a3,.int .u64 x.a4,.int .u64 x.a5]] w (DecPost d cs x w):=by
 obtain ⟨hk1,hk2,hb⟩:=two_new w #[.slice A n cap,.int .u32 d] #[.int .u32 x.num,.int .u32 x.arch,.int .u64 x.at_,.int .u64 x.a0,.int .u64 x.a1,.int .u64 x.a2,.int .u64 x.a3,.int .u64 x.a4,.int .u64 x.a5] 71 60 (la:=[.slice A n cap,.int .u32 d]) (lb:=x.cells) rfl rfl
 have HP:=qd (hP.below hb)
 have HN:=qd hn
 have HS:=qd hs
 have HL:=qd hbl
 have HX:=qd hx
 clear hP hn hs hbl hx
 go_enter Tryz.func48,Tryz.ntmps48
 go_upto_region 1 with fail
 generalize (w.alloc _).alloc _=w2 at hk1 hk2 hb HP ⊢
 have HB0:=qd hb
 have hlt1:=hk1.lt
 have hlt2:=hk2.lt
 have HK1:=qd hk1
 have HK2:=qd hk2
 have q0:=hk1.cell 0 rfl
 have q1:=hk1.cell 1 rfl
 have y0:=hk2.cell 0 rfl
 have y1:=hk2.cell 1 rfl
 clear hk1 hk2 hb
 go_step3
 by_cases ha:x.arch=3221225534
 ·have e1:((x.arch:Int) != 3221225534)=false:=by rw [ha];decide
  have HA:=qd ha
  have HBr:=qd (fun W (h:Below w2.heap.size w2 W)=>branches_any cs n A cap d x.num W HN.out hl HS.out (by have:=(HP.out.below h).row.rd;rw [HN.out] at this;exact this))
  clear ha
  go_wp2_with fail
  go_step3
  go_wp2_with fail
  refine (HBr.out _ (Below.refl _ _)).mono ?_
  clear HBr q0 q1 y0 y1 e1
  rintro e w3 ⟨hb3,B,m,c9,rfl,hres⟩
  have HB3:=qd hb3
  obtain ⟨brs,hbrs⟩:∃brs:List BrV,brs.length=m∧Rd w3 2 m B (brs.flatMap BrV.cells)∧(∀b∈brs,Rd w3 4 b.m.conds.length b.A (b.m.conds.flatMap CondM.cells)∧b.m.conds.length≤100000∧∀q∈b.m.conds,q.ok)∧m≤100000∧∀r,r=brF d brs x→DecR d cs x r:=by
   rcases hres with ⟨c,hc,hcx,rfl,rfl⟩|⟨hno,rfl,rfl⟩
   ·exact ⟨c.brs,rfl,((HP.out.brs c hc).below hb3).rd,fun b hb=>⟨(TRd.below (HP.out.con c hc b hb) hb3).rd,(HL.out c hc).2 b hb⟩,(HL.out c hc).1,fun r hr=>Or.inr ⟨HA.out,Or.inl ⟨c,hc,hcx,hr⟩⟩⟩
   ·exact ⟨[],rfl,Rd.nil _ _ _,by simp,by omega,fun r hr=>Or.inr ⟨HA.out,Or.inr ⟨hno,hr⟩⟩⟩
  obtain ⟨hm,hRb,hCb,hml,hD⟩:=hbrs
  have HM:=qd hm
  have HRb:=qd hRb
  have HCb:=qd hCb
  have HD:=qd hD
  clear hm hRb hCb hD hres hb3
  go_wp2_with fail
  go_loopw [17] (fun iv wr=>∃i:Nat,iv=.int .i64 i∧i≤m∧Hid (∀c∈brs.take i,allH x c=false)∧Hid (Below w3.heap.size w3 wr)) (fun iv _=>m-(intOf iv).toNat)
  case atStart=>exact ⟨0,rfl,Nat.zero_le _,qd (by simp),Below.refl _ _⟩
  case round=>
   obtain ⟨i,rfl,hi,HF,HB⟩:=hrel
   by_cases hlt:i<m
   ·obtain ⟨b,hb⟩:∃b,brs[i]?=some b:=⟨_,List.getElem?_eq_getElem (by have:=HM.out;omega)⟩
    obtain ⟨rb,ro,hA,hrl,hcell⟩:=(HRb.out.below HB.out).one (f:=BrV.cells) (fun _=>rfl) (by omega) (by omega)
    subst hA
    obtain ⟨c0,c1⟩:=br_cells2 hcell hb
    obtain ⟨hcr,hcn,hcok⟩:=HCb.out b (List.mem_of_getElem? hb)
    have HCr:=qd (hcr.below HB.out)
    have HCo:=qd hcok
    have HBb:=qd hb
    have hbx:Bk (wr.alloc (.cells #[.slice b.A b.m.conds.length b.cap,.int .u32 b.m.act] 209)) wr.heap.size 209 [.slice b.A b.m.conds.length b.cap,.int .u32 b.m.act]:=Bk.new _ _ _ rfl
    have hb6:=oneb wr (.cells #[.slice b.A b.m.conds.length b.cap,.int .u32 b.m.act] 209)
    have HCr6:=qd (HCr.out.below hb6)
    have HB6:=qd (HB.out.trans (hb6.mono HB.out.size))
    clear hcell hcr hcok hb HCr
    go_upto_region 6 with fail
    generalize wr.alloc _=w6 at hbx HCr6 HB6 ⊢
    generalize wr.heap.size=xb at hbx ⊢
    have k0:=hbx.cell 0 rfl
    have kl:=hbx.lt
    have HBx:=qd hbx
    obtain ⟨nc,hnc⟩:∃nc,nc=b.m.conds.length:=⟨_,rfl⟩
    rw [←hnc] at k0 hcn
    have HNC:=qd hnc
    clear hbx hb6 c0 c1 hrl hnc HB
    go_wp2_with fail
    go_loopw [24] (fun jv wq=>∃j:Nat,jv=.int .i64 j∧j≤nc∧Hid (∀q∈b.m.conds.take j,holdB q x=true)∧Hid (Below w6.heap.size w6 wq)) (fun jv _=>nc-(intOf jv).toNat)
    case atStart=>exact ⟨0,rfl,Nat.zero_le _,qd (by simp),Below.refl _ _⟩
    case round=>
     rename World=>wq
     clear k0
     obtain ⟨j,rfl,hj,HG,HQ⟩:=hrel
     have HBq:=qd (HB3.out.trans ((HB6.out.mono HB3.out.size).trans (HQ.out.mono (Nat.le_trans HB3.out.size HB6.out.size))))
     have HBw:=qd (HB6.out.trans (HQ.out.mono HB6.out.size))
     have k1:=(HBx.out.kept HQ.out).cell 1 rfl
     have kl:=(HBx.out.kept HQ.out).lt
     have hy:=HK2.out.kept HBq.out
     have y0:=hy.cell 0 rfl
     have y1:=hy.cell 1 rfl
     have y2:=hy.cell 2 rfl
     have y3:=hy.cell 3 rfl
     have y4:=hy.cell 4 rfl
     have y5:=hy.cell 5 rfl
     have y6:=hy.cell 6 rfl
     have y7:=hy.cell 7 rfl
     have y8:=hy.cell 8 rfl
     have yl:=hy.lt
     clear hy
     by_cases hlq:j<nc
     ·obtain ⟨q,hq⟩:∃q,b.m.conds[j]?=some q:=⟨_,List.getElem?_eq_getElem (by have:=HNC.out;omega)⟩
      obtain ⟨qb,qo,hqA,hql,hqc⟩:=(HCr6.out.below HQ.out).one (fun _=>rfl) (by omega) (by have:=HNC.out;omega)
      rw [hqA]
      obtain ⟨d0,d1,d2,d3⟩:=cond_cells hqc hq
      have hqk:=HCo.out q (List.mem_of_getElem? hq)
      have hck:=qd (fun W=>Me.holds_any q.arg q.op q.mask q.val x W hqk.2.2.1 hqk.2.2.2.1 HX.out)
      have HXc:=qd hq
      clear hqc hq hqk
      go_wp2_with fail
      refine (hck.out _).mono ?_
      clear hck d0 d1 d2 d3 k1 kl y0 y1 y2 y3 y4 y5 y6 y7 y8 yl
      rintro e w8 ⟨rfl,hb8⟩
      have HQ8:=qd ((HQ.out.alloc HQ.out.size (.cells #[.int .i64 q.arg,.int .u8 q.op,.int .u64 q.mask,.int .u64 q.val] 89)).trans (hb8.mono (by have:=HQ.out.size;simp;omega)))
      clear hb8
      have hce:(⟨q.arg,q.op,q.mask,q.val⟩:CondM)=q:=rfl
      rw [hce]
      clear hce
      cases hz:holdB q x with
      | true=>
       have HG2:=qd (all_on HG.out HXc.out hz)
       clear hz
       go_wp2_with fail
       go_roundw
       case rel=>exact ⟨j+1,by go_num,by omega,HG2,HQ8⟩
       case measure=>simp [intOf];omega
      | false=>
       have HF2:=qd (find_on HF.out HBb.out (show allH x b=false from all_bad HXc.out hz))
       clear hz
       go_wp2_with fail
       go_roundw
       case rel=>exact ⟨i+1,by go_num,by omega,HF2,qd (HB6.out.trans (HQ8.out.mono HB6.out.size))⟩
       case measure=>simp [intOf];omega
     ·have HV:=qd (HD.out b.m.act (brF_hit HF.out HBb.out (show allH x b=true from all_end (by have:=HNC.out;omega) HG.out)).symm)
      clear y0 y1 y2 y3 y4 y5 y6 y7 y8 yl
      go_wp2_with fail
      go_ret
      exact ⟨b.m.act,rfl,HB0.out.trans (HBq.out.mono HB0.out.size),HV.out⟩
   ·have HV:=qd (HD.out d (brF_end HF.out (by have:=HM.out;omega)).symm)
    have q1:=((HK1.out.kept HB3.out).kept HB.out).cell 1 rfl
    have hl1:=((HK1.out.kept HB3.out).kept HB.out).lt
    go_wp2_with fail
    go_ret
    exact ⟨d,rfl,(HB0.out.trans (HB3.out.mono HB0.out.size)).trans (HB.out.mono (Nat.le_trans HB0.out.size HB3.out.size)),HV.out⟩
 ·have e1:((x.arch:Int) != 3221225534)=true:=by rw [bne_iff_ne];omega
  have HA:=qd ha
  clear ha
  go_wp2_with fail
  go_ret
  exact ⟨_,rfl,HB0.out,Or.inl ⟨HA.out,rfl⟩⟩
end Go.Proofs.YtcnebdjhhfnmoaaGreatDoor.Ir
