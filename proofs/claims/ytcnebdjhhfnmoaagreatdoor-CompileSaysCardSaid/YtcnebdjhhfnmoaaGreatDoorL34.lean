/- A policy's plan: the walk. -/
import Derived.Test.YtcnebdjhhfnmoaaGreatDoorL24
import Derived.Test.YtcnebdjhhfnmoaaGreatDoorL33
import Derived.Test.YtcnebdjhhfnmoaaGreatDoorL01
set_option maxHeartbeats 32000000
set_option maxRecDepth 100000
namespace Go.Proofs.YtcnebdjhhfnmoaaGreatDoor.Ir
open Go.RowKit Go.WideElems Go.Proofs.YtcnebdjhhfnmoaaGreatDoor.Me
def OfPostC (d:Nat)(ms:List RuleM)(w:World)(e:Ending)(w':World):Prop:=
 Below w.heap.size w w'∧∃l',Sorted ms l'∧∃A cap cs,cs.map CaV.m=ofF l'∧e=.returned (.agg #[.slice A cs.length cap,.int .u32 d])∧PlanR w' A cs∧cs.length≤cap
theorem addF_len (l:List BrM)(r:RuleM):(addF l r).length≤l.length+1:=by
 unfold addF
 split
 ·omega
 ·split
  ·omega
  ·simp
theorem exists_rv (l:List RuleV)(h:∀r∈l,r.m.num<4294967296∧r.m.act<4294967296):∃l':List RV,l'.map (·.1)=l:=by
 induction l with
 | nil=>exact ⟨[],rfl⟩
 | cons x t ih=>
  obtain ⟨t',ht⟩:=ih fun r hr=>h r (List.mem_cons_of_mem _ hr)
  exact ⟨⟨x,h x List.mem_cons_self⟩::t',congrArg (x::·) ht⟩
def InvO (ms:List RuleM)(w4 wr:World)(pb d k:Nat):Prop:=
 (k=0∧P0 w4 wr pb d)∨(0<k∧∃cs num lb g cap vB Bb,(ms.take k).foldl stF none=some (cs.map CaV.m,num,lb.map BrV.m)∧PS w4 wr cs num lb g cap vB Bb pb d∧lb.length≤k∧∃r,ms[k-1]?=some r∧r.num=num)
theorem InvO.bel {ms:List RuleM}{w4 wr:World}{pb d k:Nat}(h:InvO ms w4 wr pb d k):Below w4.heap.size w4 wr:=by
 rcases h with ⟨_,h⟩|⟨_,_,_,_,_,_,_,_,_,h,_⟩
 ·exact h.bel
 ·exact h.bel
theorem InvO.kept {ms:List RuleM}{w4 wr w':World}{pb d k:Nat}(h:InvO ms w4 wr pb d k)(hb:Below wr.heap.size wr w'):InvO ms w4 w' pb d k:=by
 rcases h with ⟨a,h⟩|⟨a,cs,num,lb,g,cap,vB,Bb,b,h,c⟩
 ·exact Or.inl ⟨a,h.kept hb⟩
 ·exact Or.inr ⟨a,cs,num,lb,g,cap,vB,Bb,b,h.kept hb,c⟩
theorem InvO.more {ms:List RuleM}{w4 wr:World}{pb d k num:Nat}{cs:List CaV}{lb lb':List BrV}{g cap:Nat}{vB:Value}{Bb:Nat}{r:RuleM}(hr:ms[k]?=some r)(hnum:r.num=num)
  (hst:(ms.take (k+1)).foldl stF none=some (cs.map CaV.m,num,addF (lb.map BrV.m) r)) (h1:lb'.map BrV.m=addF (lb.map BrV.m) r) (hlb:lb.length≤k) (h2:PS w4 wr cs num lb' g cap vB Bb pb d):InvO ms w4 wr pb d (k+1):=by
 refine Or.inr ⟨by omega,cs,num,lb',g,cap,vB,Bb,by rw [hst,h1],h2,?_,r,by simpa using hr,hnum⟩
 have:=addF_len (lb.map BrV.m) r
 rw [←h1,List.length_map,List.length_map] at this
 omega
theorem fold_take {ms:List RuleM}{k:Nat}{r:RuleM}(hr:ms[k]?=some r):(ms.take (k+1)).foldl stF none=stF ((ms.take k).foldl stF none) r:=by
 rw [List.take_add_one,hr,List.foldl_append];rfl
theorem of_end {ms:List RuleM}{w4 wr:World}{pb d k:Nat}(h:InvO ms w4 wr pb d k)(hk:ms.length≤k):∃A cap cs,cs.map CaV.m=ofF ms∧Bk wr pb 71 [.slice A cs.length cap,.int .u32 d]∧PlanR wr A cs∧cs.length≤cap:=by
 rcases h with ⟨rfl,h⟩|⟨_,cs,num,lb,g,cap,vB,Bb,hst,h,_⟩
 ·obtain rfl:ms=[]:=List.length_eq_zero_iff.1 (by omega)
  exact ⟨none,0,[],rfl,h.box,⟨TRd.nil _ _ _,by simp,by simp⟩,Nat.le_refl _⟩
 ·rw [List.take_of_length_le hk] at hst
  obtain ⟨cs',e1,e2,e3⟩:=h.plan
  obtain ⟨A1,c1,h1,hcap,_⟩:=own_typed h.row
  cases h1
  refine ⟨_,cap,cs',?_,by rw [e2];exact h.box,e3,by rw [e2];exact hcap⟩
  unfold ofF;rw [hst,e1];rfl
theorem PlanR.grown {w w':World}{A:Option Addr}{cs:List CaV}{r:Nat}(h:PlanR w A cs)(hg:w.grownBy w' (some r))(ht:TyB w r 71):PlanR w' A cs:=
 ⟨h.row.grown hg (h.row.off ht (by decide)),fun c hc=>(h.brs c hc).grown hg ((h.brs c hc).off ht (by decide)),fun c hc b hb=>TRd.grown (h.con c hc b hb) hg (TRd.off (h.con c hc b hb) ht (by decide))⟩
theorem PlanR.below {w w':World}{A:Option Addr}{cs:List CaV}(h:PlanR w A cs)(hb:Below w.heap.size w w'):PlanR w' A cs:=
 ⟨h.row.below hb,fun c hc=>(h.brs c hc).below hb,fun c hc b hb'=>(h.con c hc b hb').below hb⟩
theorem st_len':∀(l:List RuleM)(s:Option (List CaM×Nat×List BrM)),(match l.foldl stF s with|some x=>x.1.length+1|none=>0)≤(match s with|some x=>x.1.length+1|none=>0)+l.length
 | [],s=>by simp
 | r::t,s=>by
  have h:=st_len' t (stF s r)
  rw [List.foldl_cons,List.length_cons]
  refine Nat.le_trans h ?_
  cases s with
  | none=>simp [stF];omega
  | some x=>
   obtain ⟨cs,num,lb⟩:=x
   by_cases hq:r.num=num
   ·have e:stF (some (cs,num,lb)) r=some (cs,num,addF lb r):=if_pos hq
    rw [e];simp only;omega
   ·have e:stF (some (cs,num,lb)) r=some (cs++[⟨num,lb⟩],r.num,addF [] r):=if_neg hq
    rw [e];simp only [List.length_append,List.length_cons,List.length_nil];omega
theorem st_len {ms:List RuleM}{k num:Nat}{cs:List CaV}{lb:List BrM}(h:(ms.take k).foldl stF none=some (cs.map CaV.m,num,lb)):(cs.map CaV.m).length+1≤k:=by
 have h1:=st_len' (ms.take k) none
 rw [h] at h1
 simp only [List.length_take] at h1
 omega
theorem of_anyC (nm:ByteArray)(d:Nat)(rules:List RuleV)(RA:Option Addr)(nR Rc hd:Nat)(PA:Option Addr)(nP Pc:Nat)(QA:Option Addr)(nQ Qc:Nat)(w:World)(hn:rules.length=nR)(hl:nR≤1000)(hR:RRd w rules RA)(hc:∀r∈rules,r.m.conds.length≤60000) :
  Calls Tryz.prog 23 #[.agg #[.string nm,.int .u32 d,.slice RA nR Rc,.int .u16 hd,.slice PA nP Pc,.slice QA nQ Qc]] w (OfPostC d (rules.map RuleV.m) w):=by
 obtain ⟨hk1,hk2,hb⟩:=two_new w #[.string nm,.int .u32 d,.slice RA nR Rc,.int .u16 hd,.slice PA nP Pc,.slice QA nQ Qc] #[.slice none 0 0,.int .u32 0] 30 71 (la:=[.string nm,.int .u32 d,.slice RA nR Rc,.int .u16 hd,.slice PA nP Pc,.slice QA nQ Qc]) (lb:=[.slice none 0 0,.int .u32 0]) rfl rfl
 have HR:=qd (hR.below hb)
 have HN0:=qd hn
 have HCL:=qd hc
 clear hR hc hn
 go_enter Tryz.func23,Tryz.ntmps23
 go_upto_region 1 with fail
 generalize (w.alloc _).alloc _=w2 at hk1 hk2 hb HR ⊢
 have HB0:=qd hb
 have q2:=hk1.cell 2 rfl
 have hlt1:=hk1.lt
 have hs2:w.heap.size+1<w2.heap.size:=hk2.lt
 have HK1:=qd hk1
 have HK2:=qd hk2
 clear hk1 hk2 hb
 obtain ⟨l,hlv⟩:=exists_rv rules (fun r hr=>⟨(HR.out.ok r hr).1,(HR.out.ok r hr).2.1⟩)
 have hll:l.length=nR:=by rw [←HN0.out,←hlv,List.length_map]
 have HCl:=qd (fun W (h:Below w2.heap.size w2 W)=>cloneRule_any rules nR RA Rc W HN0.out (by have:=(HR.out.below h).r;rw [HN0.out] at this;exact this) (by omega) (fun h0=>by
  rcases Nat.eq_zero_or_pos nR with h1|h1
  ·exact h1
  ·have:=HR.out.r;rw [HN0.out] at this;obtain ⟨b,o,e,_⟩:=this.pos h1;rw [h0] at e;cases e))
 have HLV:=qd hlv
 have HLL:=qd hll
 clear hlv hll
 go_wp2_with fail
 refine (HCl.out _ (Below.refl _ _)).mono ?_
 clear HCl q2
 rintro e w3 ⟨A3,c3,rfl,hown,hb3⟩
 rw [HN0.out] at hown ⊢
 have hown2:w3.ownsRow w2.heap.size 86 3 (.slice A3 nR c3) nR (l.flatMap RV.enc):=by
  have e:l.flatMap RV.enc=rules.flatMap RuleV.cells:=by rw [←HLV.out,List.flatMap_map];rfl
  rw [e];exact hown
 have HSo:=qd (sort_any l nR w2.heap.size A3 c3 w3 HLL.out hown2 hb3.size (by omega))
 have HB3:=qd hb3
 clear hown hown2 hb3
 go_wp2_with fail
 refine HSo.out.mono ?_
 clear HSo
 rintro e w4 ⟨rfl,l',hS,hlen,hmem,hrd,hb4⟩
 have HB4:=qd (HB3.out.trans hb4)
 have hk1:=HK1.out.kept HB4.out
 have q1:=hk1.cell 1 rfl
 have hlt4:=hk1.lt
 have HS:=qd (show Sorted (rules.map RuleV.m) (l'.map (·.1.m)) by
  have e:rules.map RuleV.m=l.map (·.1.m):=by rw [←HLV.out,List.map_map];rfl
  rw [e];exact hS)
 obtain ⟨ms,hms⟩:∃ms,ms=l'.map (·.1.m):=⟨_,rfl⟩
 rw [←hms] at HS
 have HMS:=qd hms
 have HLN:=qd hlen
 have HRD:=qd hrd
 have HOK:=qd (show ∀r∈l',Rd w4 4 r.1.m.conds.length r.1.A (r.1.m.conds.flatMap CondM.cells)∧r.1.m.ok∧r.1.m.conds.length≤60000 from fun r hr=>by
  have h1:r.1∈rules:=by rw [←HLV.out];exact List.mem_map.2 ⟨r,hmem r hr,rfl⟩
  exact ⟨(HR.out.c r.1 h1).below HB4.out,HR.out.ok r.1 h1,HCL.out r.1 h1⟩)
 clear hk1 hS hms hlen hmem hrd hb4
 go_wp2_with fail
 clear q1
 have h50:P0 w4 (w4.alloc (.cells #[.slice none 0 0,.int .u32 d] 71)) w4.heap.size d:=⟨oneb _ _,Nat.le_refl _,Bk.new _ _ _ rfl⟩
 have hb40:=HB4.out.size
 obtain ⟨pb,hpb⟩:∃pb,pb=w4.heap.size:=⟨_,rfl⟩
 generalize w4.alloc _=w5 at h50 ⊢
 rw [←hpb] at h50 ⊢
 have HPB:=qd hpb
 clear hpb
 have H50:=qd (show InvO ms w4 w5 pb d 0 from Or.inl ⟨rfl,h50⟩)
 clear h50
 go_loopw [17] (fun iv wr=>∃k:Nat,iv=.int .i64 k∧k≤nR∧Hid (InvO ms w4 wr pb d k)) (fun iv _=>nR-(intOf iv).toNat)
 case atStart=>exact ⟨0,rfl,Nat.zero_le _,H50⟩
 case round=>
  clear H50
  obtain ⟨k,rfl,hk,HI⟩:=hrel
  by_cases hlt:k<nR
  ·obtain ⟨rv,hrv⟩:∃rv,l'[k]?=some rv:=⟨_,List.getElem?_eq_getElem (by have:=HLN.out;omega)⟩
   have hrv2:(l'.map (·.1))[k]?=some rv.1:=by rw [List.getElem?_map,hrv];rfl
   have HRm:=qd (show ms[k]?=some rv.1.m by rw [HMS.out,List.getElem?_map,hrv];rfl)
   obtain ⟨hrdc,hrok,hrn⟩:=HOK.out rv (List.mem_of_getElem? hrv)
   obtain ⟨b,o,hA,hbl,hcell⟩:=(HRD.out.below HI.out.bel).one (fun _=>rfl) (by omega) (by omega)
   subst hA
   obtain ⟨c0,c1,c2⟩:=rule_cells hcell hrv2
   obtain ⟨⟨⟨⟨rn,ra,rc⟩,rA,rcap⟩,rp⟩,hrvE⟩:∃x,x=rv:=⟨_,rfl⟩
   subst hrvE
   have HRdc:=qd hrdc
   have HRok:=qd hrok
   have HRn:=qd hrn
   simp only at c0 c1 c2
   have hprev:0<k→∃rn',ms[k-1]?=some rn'∧wr.cell? ⟨b,o+(k-1)*3,none⟩=some (.int .u32 rn'.num):=fun h0=>by
    obtain ⟨rv',hrv'⟩:∃rv,l'[k-1]?=some rv:=⟨_,List.getElem?_eq_getElem (by have:=HLN.out;omega)⟩
    have h2:(l'.map (·.1))[k-1]?=some rv'.1:=by rw [List.getElem?_map,hrv'];rfl
    exact ⟨rv'.1.m,by rw [HMS.out,List.getElem?_map,hrv'];rfl,(rule_cells hcell h2).1⟩
   have HPR:=qd hprev
   clear hrv hrv2 hrdc hrok hrn hcell hprev
   go_upto_region 7 with fail
   have hbx:Bk (wr.alloc (.cells #[.int .u32 rn,.int .u32 ra,.slice rA rc.length rcap] 86)) wr.heap.size 86 [.int .u32 rn,.int .u32 ra,.slice rA rc.length rcap]:=Bk.new _ _ _ rfl
   have hb6:=oneb wr (.cells #[.int .u32 rn,.int .u32 ra,.slice rA rc.length rcap] 86)
   have HI6:=qd (HI.out.kept hb6)
   have hb6l:b<(wr.alloc (.cells #[.int .u32 rn,.int .u32 ra,.slice rA rc.length rcap] 86)).heap.size:=Nat.lt_of_lt_of_le hbl hb6.size
   have HPR6:=qd (show 0<k→∃rn',ms[k-1]?=some rn'∧(wr.alloc (.cells #[.int .u32 rn,.int .u32 ra,.slice rA rc.length rcap] 86)).cell? ⟨b,o+(k-1)*3,none⟩=some (.int .u32 rn'.num) from fun h0=>by
    obtain ⟨r',h1,h2⟩:=HPR.out h0
    exact ⟨r',h1,(hb6.cell (p:=⟨b,o+(k-1)*3,none⟩) hbl).trans h2⟩)
   generalize wr.alloc _=w6 at hbx HI6 HPR6 hb6l ⊢
   generalize wr.heap.size=xb at *
   clear HPR HI hb6 c0 c1 c2 hbl
   have j0:=hbx.cell 0 rfl
   have j1:=hbx.cell 1 rfl
   have j2:=hbx.cell 2 rfl
   have jl:=hbx.lt
   have HBx:=qd hbx
   clear hbx
   obtain ⟨bb,hbb⟩:∃bb:Bool,bb=(decide (k=0) || (match ms[k-1]? with|some r'=>decide (r'.num≠rn)|none=>false)):=⟨_,rfl⟩
   go_cut [34] from 22 to 34 (fun s34 wx=>s34=.bool bb∧wx=w6.drew)
   case first=>
    by_cases h0:k=0
    ·have e1:((k:Int)==0)=true:=by rw [h0];rfl
     have e2:bb=true:=by rw [hbb,decide_eq_true h0];rfl
     subst e2
     clear h0 HPR6 hbb
     refine wp_region_held_drew (S:=(fun _=>True)) (by kernel_rfl) ?_ (fun hHeld0=>?_)
     ·exact trivial
     refine tkH (i:=0) (s:=hHeld0) (h:=?_)
     try simp only [Act.put,pA,pB,pC]
     refine tkH (i:=1) (s:=hHeld0) (h:=?_)
     try simp only [Act.put,pA,pB,pC]
     refine tkH (i:=2) (s:=hHeld0) (h:=?_)
     try simp only [Act.put,pA,pB,pC]
     refine tkH (i:=3) (v:=undef) (y:=Or.inr ⟨by rfl,rfl⟩) (s:=hHeld0) (h:=?_)
     try simp only [Act.put,pA,pB,pC]
     refine tkH (i:=4) (v:=undef) (y:=Or.inr ⟨by rfl,rfl⟩) (s:=hHeld0) (h:=?_)
     try simp only [Act.put,pA,pB,pC]
     refine tkH (i:=5) (v:=undef) (y:=Or.inr ⟨by rfl,rfl⟩) (s:=hHeld0) (h:=?_)
     try simp only [Act.put,pA,pB,pC]
     refine tkH (i:=6) (v:=undef) (y:=Or.inr ⟨by rfl,rfl⟩) (s:=hHeld0) (h:=?_)
     try simp only [Act.put,pA,pB,pC]
     refine tkH (i:=7) (v:=undef) (y:=Or.inr ⟨by rfl,rfl⟩) (s:=hHeld0) (h:=?_)
     try simp only [Act.put,pA,pB,pC]
     refine tkH (i:=8) (v:=undef) (y:=Or.inr ⟨by rfl,rfl⟩) (s:=hHeld0) (h:=?_)
     try simp only [Act.put,pA,pB,pC]
     refine tkH (i:=9) (v:=undef) (y:=Or.inr ⟨by rfl,rfl⟩) (s:=hHeld0) (h:=?_)
     try simp only [Act.put,pA,pB,pC]
     refine tkH (i:=10) (v:=undef) (y:=Or.inr ⟨by rfl,rfl⟩) (s:=hHeld0) (h:=?_)
     try simp only [Act.put,pA,pB,pC]
     refine tkH (i:=11) (v:=undef) (y:=Or.inr ⟨by rfl,rfl⟩) (s:=hHeld0) (h:=?_)
     try simp only [Act.put,pA,pB,pC]
     refine tkH (i:=12) (s:=hHeld0) (h:=?_)
     try simp only [Act.put,pA,pB,pC]
     refine wpAnyH_done (by kernel_rfl) ?_ _
     go_wp2_with fail
     go_meet
     case rel=>exact ⟨rfl,rfl⟩
    ·have e1:((k:Int)==0)=false:=by rw [beq_eq_false_iff_ne];omega
     obtain ⟨rn',hp1,hp2⟩:=HPR6.out (by omega)
     have e2:bb=((rn:Int) != (rn'.num:Int)):=by
      rw [hbb,decide_eq_false h0,hp1]
      rw [Bool.eq_iff_iff,bne_iff_ne]
      simp
      omega
     have z2:((k:Int)-1).toNat=k-1:=by omega
     have z3:(0:Int)≤(k:Int)-1:=by omega
     have z6:(1:Int)≤(k:Int):=by omega
     have z4:(k:Int)-1<(nR:Int):=by omega
     have z5:IntKind.i64.wrap ((k:Int)-1)=(k:Int)-1:=by rw [IntKind.wrap_i64];omega
     subst e2
     clear h0 hp1 HPR6 hbb
     refine wp_region_held_drew (S:=(fun W=>W.cell? ⟨xb,0,none⟩=some (.int .u32 rn)∧xb<W.heap.size∧W.cell? ⟨b,o+(k-1)*3,none⟩=some (.int .u32 rn'.num)∧b<W.heap.size)) (by kernel_rfl) ?_ (fun hHeld0=>?_)
     ·exact ⟨j0,jl,hp2,hb6l⟩
     refine tkH (i:=0) (s:=hHeld0) (h:=?_)
     try simp only [Act.put,pA,pB,pC]
     refine tkH (i:=1) (s:=hHeld0) (h:=?_)
     try simp only [Act.put,pA,pB,pC]
     refine tkH (i:=2) (s:=hHeld0) (h:=?_)
     try simp only [Act.put,pA,pB,pC]
     refine tkH (i:=3) (s:=hHeld0) (h:=?_)
     try simp only [Act.put,pA,pB,pC]
     refine tkH (i:=4) (s:=hHeld0) (h:=?_)
     try simp only [Act.put,pA,pB,pC]
     refine tkH (i:=5) (s:=hHeld0) (h:=?_)
     try simp only [Act.put,pA,pB,pC]
     refine tkH (i:=6) (s:=hHeld0) (h:=?_)
     try simp only [Act.put,pA,pB,pC]
     refine tkH (i:=7) (s:=hHeld0) (h:=?_)
     try simp only [Act.put,pA,pB,pC]
     refine tkH (i:=8) (s:=hHeld0) (h:=?_)
     try simp only [Act.put,pA,pB,pC]
     refine tkH (i:=9) (s:=hHeld0) (h:=?_)
     try simp only [Act.put,pA,pB,pC]
     refine tkH (i:=10) (s:=hHeld0) (h:=?_)
     try simp only [Act.put,pA,pB,pC]
     refine tkH (i:=11) (s:=hHeld0) (h:=?_)
     try simp only [Act.put,pA,pB,pC]
     refine tkH (i:=12) (s:=hHeld0) (h:=?_)
     try simp only [Act.put,pA,pB,pC]
     refine wpAnyH_done (by kernel_rfl) ?_ _
     go_wp2_with fail
     go_meet
     case rel=>exact ⟨rfl,rfl⟩
   case rest=>
    obtain ⟨rfl,rfl⟩:=hcut
    have HI7:=qd (HI6.out.kept (Below.refl _ _).drew)
    have hbx7:Bk w6.drew xb 86 [.int .u32 rn,.int .u32 ra,.slice rA rc.length rcap]:=HBx.out.drew
    have hsz7:w4.heap.size≤w6.drew.heap.size:=HI7.out.bel.size
    generalize w6.drew=w7 at HI7 hbx7 hsz7 ⊢
    clear HBx HPR6 HI6 hb6l j0 j1 j2 jl
    have j0:=hbx7.cell 0 rfl
    have jl:=hbx7.lt
    have HBx:=qd hbx7
    have HBB:=qd hbb
    clear hbx7 hbb
    go_upto_if 34 with fail
    go_cut [] from 35 to 42 (fun wx=>∃cs num lb g cap vB Bb,Hid (PS w4 wx cs num lb g cap vB Bb pb d)∧Hid (lb.length≤k)∧Hid (rn=num)∧Hid ((ms.take (k+1)).foldl stF none=some (cs.map CaV.m,num,addF (lb.map BrV.m) ⟨rn,ra,rc⟩))∧Hid (Bk wx xb 86 [.int .u32 rn,.int .u32 ra,.slice rA rc.length rcap]))
    case first=>
     rcases HI7.out with ⟨h0,hP⟩|⟨h0,cs,num,lb,g,cap,vB,Bb,hst,hPS,hlb,r',hr',hnum⟩
     ·have e1:bb=true:=by rw [HBB.out,decide_eq_true h0];rfl
      subst e1
      have HST:=qd (show (ms.take (k+1)).foldl stF none=some (([]:List CaV).map CaV.m,rn,addF (([]:List BrV).map BrV.m) ⟨rn,ra,rc⟩) by rw [fold_take HRm.out,h0];rfl)
      have k0:=hP.box.cell 0 rfl
      have kl:=hP.box.lt
      have HP:=qd hP
      have HK0:=qd h0
      clear h0 hP HBB
      go_wp2_with (at_builtin;go_loud (refine append_one rfl (.tmp 36) (.tmp 40) 69 166 rfl _ 2 32 infoCa Tryz.underlying69 rfl (by decide) (by decide) w4.heap.size _ 0 [] rfl (World.ownsRow_nil _ _ _ _) w7.heap.size [.int .u32 rn,.slice none 0 0] rfl rfl (Bk.new w7 _ _ rfl) (by intro u hu;simp at hu;rcases hu with rfl|rfl<;>rfl) (by omega) (by have:=hsz7;simp;omega) ?_);intro v' w8 hown' hgrow hat;obtain ⟨g',cap',hv',_⟩:=own_some hown';subst hv';have hP8:=HP.out.kept (oneb w7 (.cells #[.int .u32 rn,.slice none 0 0] 166));have hb8:Bk w8 pb 71 _:=hP8.box.grown hgrow (by intro e;change some _=none at e;cases e);have z0:=hb8.cell 0 rfl;have zf:=hb8.fz 0;have zl:=hb8.lt;have HB8:=qd hb8;have HPS8:=qd (hP8.first hown' hgrow);have HX8:=qd ((HBx.out.kept (oneb w7 (.cells #[.int .u32 rn,.slice none 0 0] 166))).grown hgrow (by intro e;change some _=none at e;cases e));clear hown' hgrow hat hP8 hb8)
      go_meet
      case rel=>exact ⟨[],rn,[],_,_,_,_,HPS8,qd (Nat.zero_le _),qd rfl,HST,qd (HX8.out.grown (only_set _ _ _ _) (fun e=>(HX8.out.tyb.ne HB8.out.tyb (by decide)) (Option.some.inj e)))⟩
     ·by_cases hq:rn=num
      ·have e1:bb=false:=by
        rw [HBB.out,decide_eq_false (by omega),hr']
        simp [hnum,hq]
       subst e1
       have HST:=qd (show (ms.take (k+1)).foldl stF none=some (cs.map CaV.m,num,addF (lb.map BrV.m) ⟨rn,ra,rc⟩) by rw [fold_take HRm.out,hst];show (if rn=num then _ else _)=_;rw [if_pos hq])
       have HPS8:=qd hPS
       have HLB:=qd hlb
       have HQ:=qd hq
       clear hq hst hPS hlb hr' hnum h0 HBB
       go_wp2_with fail
       go_meet
       case rel=>exact ⟨cs,num,lb,g,cap,vB,Bb,HPS8,HLB,HQ,HST,HBx⟩
      ·have e1:bb=true:=by
        rw [HBB.out,hr']
        simp [hnum,show ¬num=rn from fun e=>hq e.symm]
       subst e1
       obtain ⟨Ab,cb,hvB⟩:=own_slice hPS.brs
       have HST:=qd (show (ms.take (k+1)).foldl stF none=some ((cs++[(⟨num,lb,Ab,cb⟩:CaV)]).map CaV.m,rn,addF (([]:List BrV).map BrV.m) ⟨rn,ra,rc⟩) by rw [fold_take HRm.out,hst,List.map_append];show (if rn=num then _ else _)=_;rw [if_neg hq];rfl)
       have hcl:=st_len hst
       rw [List.length_map] at hcl
       have k0:=hPS.box.cell 0 rfl
       have kl:=hPS.box.lt
       have HPS:=qd hPS
       have HVB:=qd hvB
       clear hq hst hPS hlb hr' hnum h0 HBB hvB
       go_wp2_with (at_builtin;go_loud (refine append_one rfl (.tmp 36) (.tmp 40) 69 166 rfl _ 2 32 infoCa Tryz.underlying69 rfl (by decide) (by decide) w4.heap.size _ (cs.length+1) (cs.flatMap CaV.cells++[.int .u32 num,vB]) rfl (HPS.out.kept (oneb _ _)).row w7.heap.size [.int .u32 rn,.slice none 0 0] rfl rfl (Bk.new w7 _ _ rfl) (by intro u hu;simp at hu;rcases hu with rfl|rfl<;>rfl) (by omega) (by have:=hsz7;simp;omega) ?_);intro v' w8 hown' hgrow hat;obtain ⟨g',cap',hv',_⟩:=own_some hown';subst hv';have hP8:=HPS.out.kept (oneb w7 (.cells #[.int .u32 rn,.slice none 0 0] 166));have htg:=own_ty hP8.row g rfl;have hb8:Bk w8 pb 71 _:=hP8.box.grown hgrow (fun e=>(hP8.box.tyb.ne htg (by decide)) (Option.some.inj e));have z0:=hb8.cell 0 rfl;have zf:=hb8.fz 0;have zl:=hb8.lt;have HB8:=qd hb8;have HPS8:=qd (hP8.newCase HVB.out hown' hgrow);have hx8:=HBx.out.kept (oneb w7 (.cells #[.int .u32 rn,.slice none 0 0] 166));have HX8:=qd (hx8.grown hgrow (fun e=>(hx8.tyb.ne htg (by decide)) (Option.some.inj e)));clear hown' hgrow hat hP8 hb8 htg hx8)
       go_meet
       case rel=>exact ⟨_,rn,[],_,_,_,_,HPS8,qd (Nat.zero_le _),qd rfl,HST,qd (HX8.out.grown (only_set _ _ _ _) (fun e=>(HX8.out.tyb.ne HB8.out.tyb (by decide)) (Option.some.inj e)))⟩
    case rest=>
     clear HI7 hsz7 j0 jl HBx HBB
     obtain ⟨cs,num,lb,g,cap,vB,Bb,HPS,HLB,HN,HST,HBx⟩:=hcut
     rename World=>wx
     have k0:=HPS.out.box.cell 0 rfl
     have kl:=HPS.out.box.lt
     have j0:=HBx.out.cell 0 rfl
     have j1:=HBx.out.cell 1 rfl
     have j2:=HBx.out.cell 2 rfl
     have jl:=HBx.out.lt
     have HADD:=qd (fun W (h:Below wx.heap.size wx W)=>add_any w4 W cs num lb g cap vB Bb pb d rn ra rc.length rc rA rcap (HPS.out.kept h) HRok.out.2.2.2 rfl HRn.out (by have:=HLB.out;omega) (HRdc.out.below (HPS.out.bel.trans (h.mono HPS.out.bel.size))))
     obtain ⟨nC,hnC⟩:∃nC,nC=cs.length+1:=⟨_,rfl⟩
     rw [←hnC] at k0
     have z1:(1:Int)≤(nC:Int):=by omega
     have z2:((nC:Int)-1).toNat=cs.length:=by omega
     have z3:(0:Int)≤(nC:Int)-1:=by omega
     have z4:(nC:Int)-1<(nC:Int):=by omega
     have hcl:=st_len HST.out
     have z5:IntKind.i64.wrap ((nC:Int)-1)=(nC:Int)-1:=by rw [IntKind.wrap_i64];rw [List.length_map] at hcl;omega
     clear hnC hcl
     go_wp2_with fail
     refine wp_region_any (by kernel_rfl) ?_
     try (change wpAny _ _ _ _ _ _ _ (World.drew _))
     refine wpAny_take (i:=0) (v:=?_) rfl (by kernel_rfl) (by kernel_rfl) (by kernel_rfl) (fun _ _ _ h=>h) (Or.inl ⟨by rfl,?_⟩) ?_
     rotate_left 1
     ·intro w
      go_simp<;>with_reducible rfl
     refine wpAny_take (i:=2) (v:=?_) rfl (by kernel_rfl) (by kernel_rfl) (by kernel_rfl) (fun _ _ _ h=>h) (Or.inl ⟨by rfl,?_⟩) ?_
     rotate_left 1
     ·intro w
      go_simp<;>with_reducible rfl
     refine wpAny_ready (rs:=[1,3,7]) (by kernel_rfl) (by simp) ?_
     refine AllReady.cons rfl (fun K hK=>?_) ?_
     ·skip
      go_simp
      refine hK _ _ ?_
      clear hK K
      refine wpAny_ready (rs:=[3,7]) (by kernel_rfl) (by simp) ?_
      refine AllReady.cons rfl (fun K hK=>?_) ?_
      ·skip
       go_simp
       refine hK _ _ ?_
       clear hK K
       refine wpAny_take (i:=4) (v:=?_) rfl (by kernel_rfl) (by kernel_rfl) (by kernel_rfl) (fun _ _ _ h=>h) (Or.inl ⟨by rfl,?_⟩) ?_
       rotate_left 1
       ·intro w
        go_simp<;>with_reducible rfl
       refine wpAny_take (i:=5) (v:=?_) rfl (by kernel_rfl) (by kernel_rfl) (by kernel_rfl) (fun _ _ _ h=>h) (Or.inl ⟨by rfl,?_⟩) ?_
       rotate_left 1
       ·intro w
        go_simp<;>with_reducible rfl
       refine wpAny_take (i:=6) (v:=?_) rfl (by kernel_rfl) (by kernel_rfl) (by kernel_rfl) (fun _ _ _ h=>h) (Or.inl ⟨by rfl,?_⟩) ?_
       rotate_left 1
       ·intro w
        go_simp<;>with_reducible rfl
       refine wpAny_ready (rs:=[7]) (by kernel_rfl) (by simp) ?_
       refine AllReady.cons rfl (fun K hK=>?_) ?_
       ·skip
        go_simp
        refine hK _ _ ?_
        clear hK K
        refine wpAny_ready (rs:=[8]) (by kernel_rfl) (by simp) ?_
        refine AllReady.cons rfl (fun K hK=>?_) ?_
        ·skip
         go_simp
         refine (HADD.out _ (Below.refl _ _).drew).mono ?_
         rintro e w8 ⟨rfl,lb',vB',h1,h2⟩
         refine hK _ _ ?_
         clear hK K k0 kl j0 j1 j2 jl
         have HPS8:=qd h2
         have HV:=qd h1
         clear h1 h2
         refine wpAny_done (by kernel_rfl) ?_ _
         go_wp2_with fail
         go_roundw
         case rel=>exact ⟨k+1,by go_num,by omega,qd (InvO.more HRm.out HN.out HST.out HV.out HLB.out HPS8.out)⟩
         case measure=>simp [intOf];omega
        exact AllReady.nil
       exact AllReady.nil
      refine AllReady.cons rfl (fun K hK=>?_) ?_
      ·skip
       go_simp
       refine hK _ _ ?_
       clear hK K
       refine wpAny_ready (rs:=[3]) (by kernel_rfl) (by simp) ?_
       refine AllReady.cons rfl (fun K hK=>?_) ?_
       ·skip
        go_simp
        refine hK _ _ ?_
        clear hK K
        refine wpAny_take (i:=4) (v:=?_) rfl (by kernel_rfl) (by kernel_rfl) (by kernel_rfl) (fun _ _ _ h=>h) (Or.inl ⟨by rfl,?_⟩) ?_
        rotate_left 1
        ·intro w
         go_simp<;>with_reducible rfl
        refine wpAny_take (i:=5) (v:=?_) rfl (by kernel_rfl) (by kernel_rfl) (by kernel_rfl) (fun _ _ _ h=>h) (Or.inl ⟨by rfl,?_⟩) ?_
        rotate_left 1
        ·intro w
         go_simp<;>with_reducible rfl
        refine wpAny_take (i:=6) (v:=?_) rfl (by kernel_rfl) (by kernel_rfl) (by kernel_rfl) (fun _ _ _ h=>h) (Or.inl ⟨by rfl,?_⟩) ?_
        rotate_left 1
        ·intro w
         go_simp<;>with_reducible rfl
        refine wpAny_ready (rs:=[8]) (by kernel_rfl) (by simp) ?_
        refine AllReady.cons rfl (fun K hK=>?_) ?_
        ·skip
         go_simp
         refine (HADD.out _ (Below.refl _ _).drew).mono ?_
         rintro e w8 ⟨rfl,lb',vB',h1,h2⟩
         refine hK _ _ ?_
         clear hK K k0 kl j0 j1 j2 jl
         have HPS8:=qd h2
         have HV:=qd h1
         clear h1 h2
         refine wpAny_done (by kernel_rfl) ?_ _
         go_wp2_with fail
         go_roundw
         case rel=>exact ⟨k+1,by go_num,by omega,qd (InvO.more HRm.out HN.out HST.out HV.out HLB.out HPS8.out)⟩
         case measure=>simp [intOf];omega
        exact AllReady.nil
       exact AllReady.nil
      exact AllReady.nil
     refine AllReady.cons rfl (fun K hK=>?_) ?_
     ·skip
      go_simp
      refine hK _ _ ?_
      clear hK K
      refine wpAny_take (i:=4) (v:=?_) rfl (by kernel_rfl) (by kernel_rfl) (by kernel_rfl) (fun _ _ _ h=>h) (Or.inl ⟨by rfl,?_⟩) ?_
      rotate_left 1
      ·intro w
       go_simp<;>with_reducible rfl
      refine wpAny_take (i:=5) (v:=?_) rfl (by kernel_rfl) (by kernel_rfl) (by kernel_rfl) (fun _ _ _ h=>h) (Or.inl ⟨by rfl,?_⟩) ?_
      rotate_left 1
      ·intro w
       go_simp<;>with_reducible rfl
      refine wpAny_ready (rs:=[1,7]) (by kernel_rfl) (by simp) ?_
      refine AllReady.cons rfl (fun K hK=>?_) ?_
      ·skip
       go_simp
       refine hK _ _ ?_
       clear hK K
       refine wpAny_take (i:=6) (v:=?_) rfl (by kernel_rfl) (by kernel_rfl) (by kernel_rfl) (fun _ _ _ h=>h) (Or.inl ⟨by rfl,?_⟩) ?_
       rotate_left 1
       ·intro w
        go_simp<;>with_reducible rfl
       refine wpAny_ready (rs:=[7]) (by kernel_rfl) (by simp) ?_
       refine AllReady.cons rfl (fun K hK=>?_) ?_
       ·skip
        go_simp
        refine hK _ _ ?_
        clear hK K
        refine wpAny_ready (rs:=[8]) (by kernel_rfl) (by simp) ?_
        refine AllReady.cons rfl (fun K hK=>?_) ?_
        ·skip
         go_simp
         refine (HADD.out _ (Below.refl _ _).drew).mono ?_
         rintro e w8 ⟨rfl,lb',vB',h1,h2⟩
         refine hK _ _ ?_
         clear hK K k0 kl j0 j1 j2 jl
         have HPS8:=qd h2
         have HV:=qd h1
         clear h1 h2
         refine wpAny_done (by kernel_rfl) ?_ _
         go_wp2_with fail
         go_roundw
         case rel=>exact ⟨k+1,by go_num,by omega,qd (InvO.more HRm.out HN.out HST.out HV.out HLB.out HPS8.out)⟩
         case measure=>simp [intOf];omega
        exact AllReady.nil
       exact AllReady.nil
      refine AllReady.cons rfl (fun K hK=>?_) ?_
      ·skip
       go_simp
       refine hK _ _ ?_
       clear hK K
       refine wpAny_ready (rs:=[1]) (by kernel_rfl) (by simp) ?_
       refine AllReady.cons rfl (fun K hK=>?_) ?_
       ·skip
        go_simp
        refine hK _ _ ?_
        clear hK K
        refine wpAny_take (i:=6) (v:=?_) rfl (by kernel_rfl) (by kernel_rfl) (by kernel_rfl) (fun _ _ _ h=>h) (Or.inl ⟨by rfl,?_⟩) ?_
        rotate_left 1
        ·intro w
         go_simp<;>with_reducible rfl
        refine wpAny_ready (rs:=[8]) (by kernel_rfl) (by simp) ?_
        refine AllReady.cons rfl (fun K hK=>?_) ?_
        ·skip
         go_simp
         refine (HADD.out _ (Below.refl _ _).drew).mono ?_
         rintro e w8 ⟨rfl,lb',vB',h1,h2⟩
         refine hK _ _ ?_
         clear hK K k0 kl j0 j1 j2 jl
         have HPS8:=qd h2
         have HV:=qd h1
         clear h1 h2
         refine wpAny_done (by kernel_rfl) ?_ _
         go_wp2_with fail
         go_roundw
         case rel=>exact ⟨k+1,by go_num,by omega,qd (InvO.more HRm.out HN.out HST.out HV.out HLB.out HPS8.out)⟩
         case measure=>simp [intOf];omega
        exact AllReady.nil
       exact AllReady.nil
      exact AllReady.nil
     refine AllReady.cons rfl (fun K hK=>?_) ?_
     ·skip
      go_simp
      refine hK _ _ ?_
      clear hK K
      refine wpAny_ready (rs:=[1,3]) (by kernel_rfl) (by simp) ?_
      refine AllReady.cons rfl (fun K hK=>?_) ?_
      ·skip
       go_simp
       refine hK _ _ ?_
       clear hK K
       refine wpAny_ready (rs:=[3]) (by kernel_rfl) (by simp) ?_
       refine AllReady.cons rfl (fun K hK=>?_) ?_
       ·skip
        go_simp
        refine hK _ _ ?_
        clear hK K
        refine wpAny_take (i:=4) (v:=?_) rfl (by kernel_rfl) (by kernel_rfl) (by kernel_rfl) (fun _ _ _ h=>h) (Or.inl ⟨by rfl,?_⟩) ?_
        rotate_left 1
        ·intro w
         go_simp<;>with_reducible rfl
        refine wpAny_take (i:=5) (v:=?_) rfl (by kernel_rfl) (by kernel_rfl) (by kernel_rfl) (fun _ _ _ h=>h) (Or.inl ⟨by rfl,?_⟩) ?_
        rotate_left 1
        ·intro w
         go_simp<;>with_reducible rfl
        refine wpAny_take (i:=6) (v:=?_) rfl (by kernel_rfl) (by kernel_rfl) (by kernel_rfl) (fun _ _ _ h=>h) (Or.inl ⟨by rfl,?_⟩) ?_
        rotate_left 1
        ·intro w
         go_simp<;>with_reducible rfl
        refine wpAny_ready (rs:=[8]) (by kernel_rfl) (by simp) ?_
        refine AllReady.cons rfl (fun K hK=>?_) ?_
        ·skip
         go_simp
         refine (HADD.out _ (Below.refl _ _).drew).mono ?_
         rintro e w8 ⟨rfl,lb',vB',h1,h2⟩
         refine hK _ _ ?_
         clear hK K k0 kl j0 j1 j2 jl
         have HPS8:=qd h2
         have HV:=qd h1
         clear h1 h2
         refine wpAny_done (by kernel_rfl) ?_ _
         go_wp2_with fail
         go_roundw
         case rel=>exact ⟨k+1,by go_num,by omega,qd (InvO.more HRm.out HN.out HST.out HV.out HLB.out HPS8.out)⟩
         case measure=>simp [intOf];omega
        exact AllReady.nil
       exact AllReady.nil
      refine AllReady.cons rfl (fun K hK=>?_) ?_
      ·skip
       go_simp
       refine hK _ _ ?_
       clear hK K
       refine wpAny_take (i:=4) (v:=?_) rfl (by kernel_rfl) (by kernel_rfl) (by kernel_rfl) (fun _ _ _ h=>h) (Or.inl ⟨by rfl,?_⟩) ?_
       rotate_left 1
       ·intro w
        go_simp<;>with_reducible rfl
       refine wpAny_take (i:=5) (v:=?_) rfl (by kernel_rfl) (by kernel_rfl) (by kernel_rfl) (fun _ _ _ h=>h) (Or.inl ⟨by rfl,?_⟩) ?_
       rotate_left 1
       ·intro w
        go_simp<;>with_reducible rfl
       refine wpAny_ready (rs:=[1]) (by kernel_rfl) (by simp) ?_
       refine AllReady.cons rfl (fun K hK=>?_) ?_
       ·skip
        go_simp
        refine hK _ _ ?_
        clear hK K
        refine wpAny_take (i:=6) (v:=?_) rfl (by kernel_rfl) (by kernel_rfl) (by kernel_rfl) (fun _ _ _ h=>h) (Or.inl ⟨by rfl,?_⟩) ?_
        rotate_left 1
        ·intro w
         go_simp<;>with_reducible rfl
        refine wpAny_ready (rs:=[8]) (by kernel_rfl) (by simp) ?_
        refine AllReady.cons rfl (fun K hK=>?_) ?_
        ·skip
         go_simp
         refine (HADD.out _ (Below.refl _ _).drew).mono ?_
         rintro e w8 ⟨rfl,lb',vB',h1,h2⟩
         refine hK _ _ ?_
         clear hK K k0 kl j0 j1 j2 jl
         have HPS8:=qd h2
         have HV:=qd h1
         clear h1 h2
         refine wpAny_done (by kernel_rfl) ?_ _
         go_wp2_with fail
         go_roundw
         case rel=>exact ⟨k+1,by go_num,by omega,qd (InvO.more HRm.out HN.out HST.out HV.out HLB.out HPS8.out)⟩
         case measure=>simp [intOf];omega
        exact AllReady.nil
       exact AllReady.nil
      exact AllReady.nil
     exact AllReady.nil
  ·obtain ⟨A,cap,cs,hcs,hbx,hpl,hcap⟩:=of_end HI.out (by rw [HMS.out,List.length_map,HLN.out];omega)
   have hbel:=HI.out.bel
   have hr:=(HK2.out.kept HB4.out).kept hbel
   have y0:=hbx.cell 0 rfl
   have y1:=hbx.cell 1 rfl
   have yl:=hbx.lt
   have r0:=hr.cell 0 rfl
   have f0:=hr.fz 0
   have r1:=hr.cell 1 rfl
   have f1:=hr.fz 1
   have rl:=hr.lt
   have HPL:=qd hpl
   have HCS:=qd hcs
   have HCap:=qd hcap
   have HTY:=qd hr.tyb
   have HBL:=qd hbel
   clear hcs hbx hpl hbel hr HI hcap
   obtain ⟨m,hm⟩:∃m,m=cs.length:=⟨_,rfl⟩
   rw [←hm] at y0
   have HM:=qd hm
   clear hm
   go_wp2_with fail
   have gf:=only_trans (only_set wr (w.heap.size+1) 0 (.slice A m cap)) (only_set _ (w.heap.size+1) 1 (.int .u32 d))
   refine bodyPost_ret (v:=.agg #[.slice A m cap,.int .u32 d]) (by simp [results,Tryz.results23,go_sem,r0,r1]) rfl ?_
   refine ⟨?_,ms,HS.out,A,cap,cs,HCS.out,by rw [HM.out],HPL.out.grown gf HTY.out,HCap.out⟩
   have h1:Below w.heap.size w wr:=(HB0.out.trans (HB4.out.mono (by omega))).trans (HBL.out.mono (by omega))
   exact only_below h1 gf (by omega) (by omega)
end Go.Proofs.YtcnebdjhhfnmoaaGreatDoor.Ir
