/- What a plan's code says of a call: what the plan decides. Lists alone. -/
import Derived.Test.YtcnebdjhhfnmoaaGreatDoorL27
import Derived.Test.YtcnebdjhhfnmoaaGreatDoorL16
import Derived.Test.YtcnebdjhhfnmoaaGreatDoorL26
set_option maxHeartbeats 32000000
set_option maxRecDepth 100000
namespace Go.Proofs.YtcnebdjhhfnmoaaGreatDoor.Lo
open Go.Proofs.YtcnebdjhhfnmoaaGreatDoor.Ju Go.Proofs.YtcnebdjhhfnmoaaGreatDoor.Ir Go.Proofs.YtcnebdjhhfnmoaaGreatDoor.Me
structure Sees (W:Nat→Nat)(x:RcM):Prop where
 num:W 0=x.num
 arch:W 4=x.arch
 lo:∀k,k<6→W (16+8*k)=x.arg k%4294967296
 hi:∀k,k<6→W (16+8*k+4)=x.arg k / 4294967296
def Ind (W:Nat→Nat)(l:List PtM)(v:Nat):Prop:=∀A,valL W l A=v
section
variable {W:Nat→Nat} {t:List PtM} {vy vn:Nat}
theorem ind_here {k:Nat}(h:Ind W t vy):Ind W (hereP k::t) vy:=fun A=>by rw [val_here];exact h A
theorem bits_val {a m v y n:Nat}(hy:Ind W (aft (y:Int) t) vy)(hn:Ind W (aft (n:Int) t) vn):Ind W (bitsL a m v y n++t) (if W a&&&m=v then vy else vn):=fun A=>by
 unfold bitsL
 simp only [List.cons_append,List.nil_append,val_load,val_mk,val_if]
 have e:holdsN (21 / 16) (W a&&&m) v=decide (W a&&&m=v):=rfl
 rw [e]
 by_cases h:W a&&&m=v
 ·rw [if_pos (by simpa using h),if_pos h];exact hy _
 ·rw [if_neg (by simpa using h),if_neg h];exact hn _
theorem and_hi (x m:Nat):(x&&&m) / 4294967296=x / 4294967296&&&m / 4294967296:=Nat.and_div_two_pow (n:=32)
theorem and_lo (x m:Nat):(x&&&m)%4294967296=x%4294967296&&&m%4294967296:=Nat.and_mod_two_pow (n:=32)
theorem halves_eq {a b:Nat}:a=b↔a / 4294967296=b / 4294967296∧a%4294967296=b%4294967296:=by omega
theorem equal_val {k a m v y n x:Nat}(hl:W (16+8*a)=x%4294967296)(hh:W (16+8*a+4)=x / 4294967296)(hm:v&&&m=v)(hyk:y≤k)(hnk:n≤k)(hy:Ind W (aft (y:Int) t) vy)(hn:Ind W (aft (n:Int) t) vn) :
  Ind W ((equalL k a m v y n).1++t) (if x&&&m=v then vy else vn):=by
 have key:(x&&&m=v)↔(x / 4294967296&&&m / 4294967296=v / 4294967296∧x%4294967296&&&m%4294967296=v%4294967296):=by
  rw [←and_hi,←and_lo];exact halves_eq
 unfold equalL
 by_cases h0:m%4294967296=0
 ·rw [if_pos h0]
  have hv:v%4294967296=0:=by rw [←hm,and_lo,h0,Nat.and_zero]
  have:=bits_val (W:=W) (t:=t) (a:=16+8*a+4) (m:=m / 4294967296) (v:=v / 4294967296) hy hn
  rw [hh] at this
  by_cases hc:x / 4294967296&&&m / 4294967296=v / 4294967296
  ·rw [if_pos hc] at this
   rw [if_pos (key.2 ⟨hc,by rw [h0,Nat.and_zero,hv]⟩)];exact this
  ·rw [if_neg hc] at this
   rw [if_neg (fun e=>hc (key.1 e).1)];exact this
 ·rw [if_neg h0]
  simp only
  rw [List.append_assoc,List.cons_append]
  have hy2:Ind W (aft (y:Int) (hereP (k+1)::(bitsL (16+8*a) (m%4294967296) (v%4294967296) y n++t))) vy:=by rw [aft_past (by omega),bits_aft];exact hy
  have hn2:Ind W (aft (n:Int) (hereP (k+1)::(bitsL (16+8*a) (m%4294967296) (v%4294967296) y n++t))) vn:=by rw [aft_past (by omega),bits_aft];exact hn
  have h2:=bits_val (W:=W) (t:=t) (a:=16+8*a) (m:=m%4294967296) (v:=v%4294967296) hy hn
  have hs:Ind W (aft ((k+1:Nat):Int) (hereP (k+1)::(bitsL (16+8*a) (m%4294967296) (v%4294967296) y n++t))) (if W (16+8*a)&&&m%4294967296=v%4294967296 then vy else vn):=by rw [aft_here];exact ind_here h2
  have h1:=bits_val (a:=16+8*a+4) (m:=m / 4294967296) (v:=v / 4294967296) hs hn2
  rw [hh,hl] at h1
  by_cases hc:x / 4294967296&&&m / 4294967296=v / 4294967296
  ·rw [if_pos hc] at h1
   by_cases hd:x%4294967296&&&m%4294967296=v%4294967296
   ·rw [if_pos hd] at h1
    rw [if_pos (key.2 ⟨hc,hd⟩)];exact h1
   ·rw [if_neg hd] at h1
    rw [if_neg (fun e=>hd (key.1 e).2)];exact h1
  ·rw [if_neg hc] at h1
   rw [if_neg (fun e=>hc (key.1 e).1)];exact h1
def abvB (how v x:Nat):Bool:=if how=48 then decide (v≤x) else decide (v<x)
theorem holds_21 {a v:Nat}:holdsN (21 / 16) a v=decide (a=v):=rfl
theorem holds_37 {a v:Nat}:holdsN (37 / 16) a v=decide (v<a):=rfl
theorem holds_how {how a v:Nat}(hw:how=32∨how=48):holdsN ((how+5) / 16) a v=abvB how v a:=by
 rcases hw with rfl|rfl<;>rfl
theorem above_val {k a how v y n x:Nat}(hw:how=32∨how=48)(hl:W (16+8*a)=x%4294967296)(hh:W (16+8*a+4)=x / 4294967296)(hyk:y≤k)(hnk:n≤k)(hy:Ind W (aft (y:Int) t) vy)(hn:Ind W (aft (n:Int) t) vn) :
  Ind W ((aboveL k a how v y n).1++t) (if abvB how v x=true then vy else vn):=fun A=>by
 unfold aboveL
 by_cases hs:setB how (v%4294967296)
 ·rw [if_pos hs]
  simp only [List.cons_append,List.nil_append,val_load,val_if]
  rw [holds_how hw,hh]
  have e:abvB how (v / 4294967296) (x / 4294967296)=abvB how v x:=by
   unfold abvB setB at *
   rcases hw with rfl|rfl
   ·rw [if_neg (by decide)] at hs ⊢
    rw [if_neg (by decide)]
    rw [decide_eq_decide];omega
   ·rw [if_pos rfl] at hs ⊢
    rw [if_pos rfl]
    rw [decide_eq_decide];omega
  rw [e]
  cases abvB how v x
  ·exact hn _
  ·exact hy _
 ·rw [if_neg hs]
  simp only [List.cons_append,List.nil_append,val_load,val_if,aft_here,val_here,holds_21,holds_37]
  rw [holds_how hw,hh,hl]
  have h1:aft ((k+1:Nat):Int) (hereP (k+1)::ifC 21 (v / 4294967296) (k+2) n::hereP (k+2)::loadP (16+8*a)::ifC (how+5) (v%4294967296) y n::t)=hereP (k+1)::ifC 21 (v / 4294967296) (k+2) n::hereP (k+2)::loadP (16+8*a)::ifC (how+5) (v%4294967296) y n::t:=aft_here
  have h2:aft (y:Int) (hereP (k+1)::ifC 21 (v / 4294967296) (k+2) n::hereP (k+2)::loadP (16+8*a)::ifC (how+5) (v%4294967296) y n::t)=aft (y:Int) t:=by
   rw [aft_past (by omega),aft_if,aft_past (by omega),aft_load,aft_if]
  have h3:aft (n:Int) (hereP (k+2)::loadP (16+8*a)::ifC (how+5) (v%4294967296) y n::t)=aft (n:Int) t:=by
   rw [aft_past (by omega),aft_load,aft_if]
  by_cases c1:v / 4294967296<x / 4294967296
  ·rw [if_pos (by simpa using c1),h2,if_pos (by unfold abvB;split<;>simp<;>omega)]
   exact hy _
  ·rw [if_neg (by simpa using c1)]
   by_cases c2:x / 4294967296=v / 4294967296
   ·rw [if_pos (by simpa using c2)]
    have e:abvB how (v%4294967296) (x%4294967296)=abvB how v x:=by
     unfold abvB
     rcases hw with rfl|rfl
     ·rw [if_neg (by decide),if_neg (by decide),decide_eq_decide];omega
     ·rw [if_pos rfl,if_pos rfl,decide_eq_decide];omega
    rw [e]
    cases abvB how v x
    ·exact hn _
    ·exact hy _
   ·rw [if_neg (by simpa using c2),h3,if_neg (by unfold abvB;split<;>simp<;>omega)]
    exact hn _
structure CWf (c:CondM):Prop where
 op:c.op<256
 m:c.mask<18446744073709551616
 v:c.val<18446744073709551616
theorem and_all {x:Nat}(h:x<18446744073709551616):x&&&18446744073709551615=x:=by
 have:=Nat.and_two_pow_sub_one_eq_mod x 64
 rw [show (2 ^ 64-1:Nat)=18446744073709551615 from rfl] at this
 rw [this];omega
theorem nev_arg {c:CondM}(h:nevB c=false):0≤c.arg∧c.arg<6:=by
 unfold nevB at h
 split at h
 ·cases h
 ·omega
theorem nev_op {c:CondM}(h:nevB c=false):1≤c.op∧c.op≤7∧(c.op=7→c.val&&&c.mask=c.val):=by
 unfold nevB at h
 split at h
 ·cases h
 ·split at h
  ·rename_i h7
   refine ⟨by omega,by omega,fun _=>?_⟩
   simpa using h
  ·rw [decide_eq_false_iff_not] at h
   exact ⟨by omega,by omega,fun e=>by omega⟩
theorem nev_false {c:CondM}{x:RcM}(h:nevB c=true):holdB c x=false:=by
 unfold nevB at h
 unfold holdB
 by_cases h1:c.arg<0∨6≤c.arg
 ·rw [if_pos (by omega)]
 rw [if_neg h1] at h
 rw [if_neg (by omega)]
 unfold opB
 by_cases h7:c.op=7
 ·rw [if_pos h7] at h
  rw [if_neg (by omega),if_neg (by omega),if_neg (by omega),if_neg (by omega),if_neg (by omega),if_neg (by omega),if_pos h7,decide_eq_false_iff_not]
  intro e
  rw [decide_eq_true_eq] at h
  apply h
  rw [←e,Nat.and_assoc,Nat.and_self]
 ·rw [if_neg h7,decide_eq_true_eq] at h
  rw [if_neg (by omega),if_neg (by omega),if_neg (by omega),if_neg (by omega),if_neg (by omega),if_neg (by omega),if_neg h7]
theorem ask_val {x:RcM}(hs:Sees W x)(hx:x.ok){c:CondM}(hc:CWf c)(hne:nevB c=false){k y n:Nat}(hyk:y≤k)(hnk:n≤k)(hy:Ind W (aft (y:Int) t) vy)(hn:Ind W (aft (n:Int) t) vn) :
  Ind W ((ask k c y n).1++t) (if holdB c x=true then vy else vn):=by
 obtain ⟨a0,a6⟩:=nev_arg hne
 obtain ⟨o1,o7,om⟩:=nev_op hne
 obtain ⟨a,ha⟩:∃a,a=c.arg.toNat:=⟨_,rfl⟩
 have ha6:a<6:=by omega
 have hl:=hs.lo a ha6
 have hh:=hs.hi a ha6
 have hxa:=hx.arg ha6
 have hb:holdB c x=opB c.op c.mask c.val (x.arg a):=by unfold holdB;rw [if_neg (by omega),ha]
 rw [hb]
 have sw:∀{b:Bool} {l:List PtM} {p q:Nat},Ind W l (if b=true then q else p)→Ind W l (if (!b)=true then p else q):=fun {b l p q} h=>by cases b<;>simpa using h
 unfold ask opB
 rw [←ha]
 split
 ·have:=equal_val (k:=k) (m:=18446744073709551615) (v:=c.val) hl hh (and_all hc.v) hyk hnk hy hn
  rw [and_all hxa] at this
  simpa using this
 split
 ·have:=equal_val (k:=k) (m:=18446744073709551615) (v:=c.val) hl hh (and_all hc.v) hnk hyk hn hy
  rw [and_all hxa] at this
  by_cases e:x.arg a=c.val
  ·rw [if_pos e] at this;rw [if_neg (by simpa using e)];exact this
  ·rw [if_neg e] at this;rw [if_pos (by simpa using e)];exact this
 split
 ·have:=sw (above_val (k:=k) (v:=c.val) (Or.inr rfl) hl hh hnk hyk hn hy)
  have e:(!abvB 48 c.val (x.arg a))=decide (x.arg a<c.val):=by
   unfold abvB;rw [if_pos rfl,←decide_not,decide_eq_decide];omega
  rw [e] at this;exact this
 split
 ·have:=sw (above_val (k:=k) (v:=c.val) (Or.inl rfl) hl hh hnk hyk hn hy)
  have e:(!abvB 32 c.val (x.arg a))=decide (x.arg a≤c.val):=by
   unfold abvB;rw [if_neg (by decide),←decide_not,decide_eq_decide];omega
  rw [e] at this;exact this
 split
 ·have:=above_val (k:=k) (v:=c.val) (Or.inl rfl) hl hh hyk hnk hy hn
  have e:abvB 32 c.val (x.arg a)=decide (c.val<x.arg a):=by unfold abvB;rw [if_neg (by decide)]
  rw [e] at this;exact this
 split
 ·have:=above_val (k:=k) (v:=c.val) (Or.inr rfl) hl hh hyk hnk hy hn
  have e:abvB 48 c.val (x.arg a)=decide (c.val≤x.arg a):=by unfold abvB;rw [if_pos rfl]
  rw [e] at this;exact this
 split
 ·rename_i h7
  have:=equal_val (k:=k) (m:=c.mask) (v:=c.val) hl hh (om h7) hyk hnk hy hn
  simpa using this
 ·omega
theorem conds_val {x:RcM}(hs:Sees W x)(hx:x.ok){b:Nat}:∀(l:List CondM)(k:Nat),(∀c∈l,CWf c∧nevB c=false)→b≤k→Ind W t vy→Ind W (aft (b:Int) t) vn →
  Ind W ((condsL b k l).1++t) (if (l.all fun c=>holdB c x)=true then vy else vn)
 | [],k,_,_,hy,_=>by simpa [condsL] using hy
 | c::l,k,hc,hb,hy,hn=>by
  have h1:=ask_lay (k+1) c (k+1) b
  have l1:=h1.le
  have h2:=conds_lay b l (ask (k+1) c (k+1) b).2 (by omega)
  have ih:=conds_val hs hx l (ask (k+1) c (k+1) b).2 (fun d hd=>hc d (List.mem_cons_of_mem _ hd)) (by omega) hy hn
  show Ind W (((ask (k+1) c (k+1) b).1++hereP (k+1)::(condsL b (ask (k+1) c (k+1) b).2 l).1)++t) _
  rw [List.append_assoc,List.cons_append]
  obtain ⟨w1,w2⟩:=hc c List.mem_cons_self
  have:=ask_val (t:=hereP (k+1)::((condsL b (ask (k+1) c (k+1) b).2 l).1++t)) (vy:=if (l.all fun c=>holdB c x)=true then vy else vn) (vn:=vn) hs hx w1 w2 (k:=k+1) (y:=k+1) (n:=b) (Nat.le_refl _) (by omega)
   (by rw [aft_here];exact ind_here ih) (by rw [aft_past (by omega),aft_skip (h2.not (Or.inl (by omega)))];exact hn)
  rw [List.all_cons]
  cases hcx:holdB c x with
  | true=>rw [hcx] at this;simpa using this
  | false=>rw [hcx] at this;simpa using this
theorem br_val {x:RcM}(hs:Sees W x)(hx:x.ok){b:BrM}(hc:∀c∈b.conds,CWf c)(k:Nat){v:Nat}(h:Ind W t v) :
  Ind W ((brL k b).1++t) (if (b.conds.all fun c=>holdB c x)=true then b.act else v):=by
 unfold brL
 by_cases hne:b.conds.any nevB=true
 ·rw [if_pos hne]
  have:(b.conds.all fun c=>holdB c x)=false:=by
   obtain ⟨c,hcm,hcn⟩:=List.any_eq_true.1 hne
   rw [←Bool.not_eq_true,List.all_eq_true]
   intro ha
   have:=ha c hcm
   rw [nev_false hcn] at this
   cases this
  rw [this]
  simpa using h
 ·rw [if_neg hne]
  simp only
  rw [List.append_assoc]
  simp only [List.cons_append,List.nil_append]
  refine conds_val hs hx b.conds (k+1) (fun c hcm=>⟨hc c hcm,?_⟩) (Nat.le_refl _) (fun A=>val_ret) ?_
  ·rw [←Bool.not_eq_true]
   exact fun e=>hne (List.any_eq_true.2 ⟨c,hcm,e⟩)
  ·rw [aft_ret,aft_here];exact ind_here h
def brsV (x:RcM)(l:List BrM)(d:Nat):Nat:=((l.find? fun b=>b.conds.all fun c=>holdB c x).map BrM.act).getD d
theorem brs_val {x:RcM}(hs:Sees W x)(hx:x.ok):∀(l:List BrM) (k:Nat) {v:Nat},(∀b∈l,∀c∈b.conds,CWf c)→Ind W t v→Ind W ((brsL k l).1++t) (brsV x l v)
 | [],k,v,_,h=>h
 | b::l,k,v,hc,h=>by
  have ih:=brs_val hs hx l (brL k b).2 (fun c hcm=>hc c (List.mem_cons_of_mem _ hcm)) h
  show Ind W (((brL k b).1++(brsL (brL k b).2 l).1)++t) _
  rw [List.append_assoc]
  have:=br_val hs hx (hc b List.mem_cons_self) k ih
  unfold brsV at *
  rw [List.find?_cons]
  cases hb:(b.conds.all fun c=>holdB c x) with
  | true=>rw [hb] at this;simpa using this
  | false=>rw [hb] at this;simpa using this
theorem call_val {x:RcM}(hs:Sees W x)(hx:x.ok){d k:Nat}{c:CaM}(hc:∀b∈c.brs,∀q∈b.conds,CWf q){A:Nat}:valL W ((callL d k c).1++t) A=if A=c.num then brsV x c.brs d else d:=by
 have hl:=brs_lay c.brs (k+2)
 have l1:=hl.le
 unfold callL
 simp only [List.cons_append,List.append_assoc,List.nil_append]
 rw [val_if,holds_21,aft_here,val_here,aft_past (by omega),aft_skip (hl.not (Or.inl (by omega))),aft_here,val_here,val_ret]
 have h0:Ind W (hereP (k+2)::retP d::t) d:=ind_here (fun _=>val_ret)
 have h1:=brs_val hs hx c.brs (k+2) hc h0
 by_cases e:A=c.num
 ·rw [if_pos (by simpa using e),if_pos e];exact h1 A
 ·rw [if_neg (by simpa using e),if_neg e]
def caV (x:RcM)(d:Nat)(l:List CaM)(n:Nat):Nat:=match l.find? (fun c=>decide (n=c.num)) with|some c=>brsV x c.brs d|none=>d
theorem search_val {x:RcM}(hs:Sees W x)(hx:x.ok)(d:Nat):∀(f k:Nat) (l:List CaM) (t:List PtM) (A:Nat),l.length≤f→l≠[]→l.Pairwise (fun a b=>a.num<b.num)→(∀c∈l,∀b∈c.brs,∀q∈b.conds,CWf q) →
  valL W ((searchL d f k l).1++t) A=caV x d l A
 | 0,k,l,t,A,hf,hn,_,_=>absurd (List.eq_nil_of_length_eq_zero (by omega)) hn
 | f+1,k,l,t,A,hf,hn,hp,hc=>by
  unfold searchL
  by_cases h1:l.length=1
  ·rw [if_pos h1]
   obtain ⟨c,rfl⟩:=List.length_eq_one_iff.1 h1
   show valL W ((callL d k c).1++t) A=_
   rw [call_val hs hx (hc c List.mem_cons_self)]
   unfold caV
   rw [List.find?_cons]
   by_cases e:A=c.num
   ·rw [if_pos e,show decide (A=c.num)=true from by simpa using e]
   ·rw [if_neg e,show decide (A=c.num)=false from by simpa using e];rfl
  ·rw [if_neg h1]
   have hpos:2≤l.length:=by
    have:l.length≠0:=fun e=>hn (List.eq_nil_of_length_eq_zero e)
    omega
   obtain ⟨m,hm⟩:∃m,m=l.length / 2:=⟨_,rfl⟩
   have hm1:1≤m:=by omega
   have hm2:m<l.length:=by omega
   have hmid:midN l=(l[m]'hm2).num:=by
    unfold midN
    rw [←hm,List.getElem?_eq_getElem hm2]
   rw [←hm,hmid]
   have hl1:=search_lay d f (k+2) (l.take m)
   have le1:=hl1.le
   have hl2:=search_lay d f (searchL d f (k+2) (l.take m)).2 (l.drop m)
   have i1:=search_val hs hx d f (k+2) (l.take m) (hereP (k+1)::((searchL d f (searchL d f (k+2) (l.take m)).2 (l.drop m)).1++t)) A (by rw [List.length_take];omega) (fun e=>by have:=congrArg List.length e;rw [List.length_take,List.length_nil] at this;omega) (hp.sublist (List.take_sublist _ _)) (fun c hcm=>hc c (List.mem_of_mem_take hcm))
   have i2:=search_val hs hx d f (searchL d f (k+2) (l.take m)).2 (l.drop m) t A (by rw [List.length_drop];omega) (fun e=>by have:=congrArg List.length e;rw [List.length_drop,List.length_nil] at this;omega) (hp.sublist (List.drop_sublist _ _)) (fun c hcm=>hc c (List.mem_of_mem_drop hcm))
   obtain ⟨e1,k1,hx1⟩:∃e1 k1,searchL d f (k+2) (l.take m)=(e1,k1):=⟨_,_,rfl⟩
   rw [hx1] at hl1 hl2 i1 i2 le1 ⊢
   simp only at hl1 hl2 i1 i2 le1 ⊢
   obtain ⟨e2,k2,hx2⟩:∃e2 k2,searchL d f k1 (l.drop m)=(e2,k2):=⟨_,_,rfl⟩
   rw [hx2] at hl2 i1 i2 ⊢
   simp only at hl2 i1 i2 ⊢
   simp only [List.cons_append,List.append_assoc]
   rw [val_if,show holdsN (53 / 16) A (l[m]'hm2).num=decide ((l[m]'hm2).num≤A) from rfl,aft_past (by omega),aft_skip (hl1.not (Or.inl (by omega))),aft_here,val_here,aft_here,val_here,i1,i2]
   have hsp:l=l.take m++l.drop m:=(List.take_append_drop m l).symm
   have hd:l.drop m=l[m]'hm2::l.drop (m+1):=List.drop_eq_getElem_cons hm2
   have hpp:=hp
   rw [hsp,List.pairwise_append] at hpp
   obtain ⟨_,p2,p3⟩:=hpp
   by_cases hle:(l[m]'hm2).num≤A
   ·rw [if_pos (by simpa using hle)]
    unfold caV
    conv=>rhs;rw [hsp]
    rw [List.find?_append]
    have:(l.take m).find? (fun c=>decide (A=c.num))=none:=by
     rw [List.find?_eq_none]
     intro c hcm
     have:=p3 c hcm (l[m]'hm2) (by rw [hd];exact List.mem_cons_self)
     simp;omega
    rw [this,Option.none_or]
   ·rw [if_neg (by simpa using hle)]
    unfold caV
    conv=>rhs;rw [hsp]
    rw [List.find?_append]
    have:(l.drop m).find? (fun c=>decide (A=c.num))=none:=by
     rw [List.find?_eq_none]
     intro c hcm
     rw [hd] at hcm p2
     rcases List.mem_cons.1 hcm with rfl|hcm
     ·simp;omega
     ·have:=(List.pairwise_cons.1 p2).1 c hcm
      simp;omega
    rw [this,Option.or_none]
theorem plan_val {x:RcM}(hs:Sees W x)(hx:x.ok){d:Nat}{l:List CaM}(hp:l.Pairwise (fun a b=>a.num<b.num))(hc:∀c∈l,∀b∈c.brs,∀q∈b.conds,CWf q) :
  valL W (planL d l) 0=if x.arch=3221225534 then caV x d l x.num else 2147483648:=by
 have hcl:Ind W (callsL d l) (caV x d l x.num):=fun A=>by
  unfold callsL
  by_cases h0:l=[]
  ·rw [if_pos h0,val_ret,h0];rfl
  ·rw [if_neg h0,val_load,hs.num]
   have:=search_val hs hx d l.length 2 l [] x.num (Nat.le_refl _) h0 hp hc
   rw [List.append_nil] at this;exact this
 have h:=bits_val (W:=W) (t:=hereP 2::retP 2147483648::hereP 1::callsL d l) (a:=4) (m:=4294967295) (v:=3221225534) (y:=1) (n:=2) (vy:=caV x d l x.num) (vn:=2147483648)
  (by rw [aft_past (by decide),aft_ret,aft_here];exact ind_here hcl) (by rw [aft_here];exact ind_here (fun _=>val_ret))
 have ha:W 4&&&4294967295=x.arch:=by
  rw [hs.arch]
  have:=Nat.and_two_pow_sub_one_eq_mod x.arch 32
  rw [show (2 ^ 32-1:Nat)=4294967295 from rfl] at this
  have:=hx.arch
  omega
 rw [ha] at h
 exact h 0
end
end Go.Proofs.YtcnebdjhhfnmoaaGreatDoor.Lo
namespace Go.Proofs.YtcnebdjhhfnmoaaGreatDoor.Lo
open Go.Proofs.YtcnebdjhhfnmoaaGreatDoor.Ju Go.Proofs.YtcnebdjhhfnmoaaGreatDoor.Ir Go.Proofs.YtcnebdjhhfnmoaaGreatDoor.Me
structure PtG (M:Nat)(p:PtM):Prop where
 fin:Fin1 p
 i:p.i.ok
 t0:0≤p.tQ
 t1:p.tQ≤(M:Int)
 e0:0≤p.el
 e1:p.el≤(M:Int)
def AllG (M:Nat)(l:List PtM):Prop:=∀p∈l,PtG M p
section
variable {M:Nat}
theorem AllG.nil:AllG M []:=fun _ h=>by cases h
theorem AllG.cons {p:PtM}{l:List PtM}(h:PtG M p)(hl:AllG M l):AllG M (p::l):=fun q hq=>by
 rcases List.mem_cons.1 hq with rfl|hq
 ·exact h
 ·exact hl q hq
theorem AllG.app {a b:List PtM}(ha:AllG M a)(hb:AllG M b):AllG M (a++b):=fun q hq=>by
 rcases List.mem_append.1 hq with hq|hq
 ·exact ha q hq
 ·exact hb q hq
theorem PtG.ok {p:PtM}(h:PtG M p)(hM:M≤1000000):p.ok:=by
 have h1:=h.t0
 have h2:=h.t1
 have h3:=h.e0
 have h4:=h.e1
 exact ⟨by have:=h.fin.kd;omega,by omega,by omega,by omega,by omega,h.i⟩
theorem g_load {k:Nat}(h4:k%4=0)(h60:k≤60):PtG M (loadP k):=
 ⟨fin_plain rfl (Or.inl rfl) (by show (k%4==0&&decide (k≤60))=true;rw [Bool.and_eq_true,beq_iff_eq,decide_eq_true_eq];exact ⟨h4,h60⟩),⟨by show 32<_;omega,by show 0<_;omega,by show 0<_;omega,by show k<_;omega⟩,Int.le_refl _,by show (0:Int)≤_;omega,Int.le_refl _,by show (0:Int)≤_;omega⟩
theorem g_mk {k:Nat}(h:k<4294967296):PtG M (mkP k):=
 ⟨fin_plain rfl (Or.inr (Or.inl rfl)) rfl,⟨by show 84<_;omega,by show 0<_;omega,by show 0<_;omega,h⟩,Int.le_refl _,by show (0:Int)≤_;omega,Int.le_refl _,by show (0:Int)≤_;omega⟩
theorem g_ret {k:Nat}(h:k<4294967296):PtG M (retP k):=
 ⟨fin_plain rfl (Or.inr (Or.inr rfl)) rfl,⟨by show 6<_;omega,by show 0<_;omega,by show 0<_;omega,h⟩,Int.le_refl _,by show (0:Int)≤_;omega,Int.le_refl _,by show (0:Int)≤_;omega⟩
theorem g_here {k:Nat}(h:k≤M):PtG M (hereP k):=
 ⟨fin_name (Or.inl rfl),⟨by show 0<_;omega,by show 0<_;omega,by show 0<_;omega,by show 0<_;omega⟩,by show (0:Int)≤(k:Int);omega,by show (k:Int)≤_;omega,Int.le_refl _,by show (0:Int)≤_;omega⟩
theorem g_if {c v y n:Nat}(hc:c=21∨c=37∨c=53)(hv:v<4294967296)(hy:y≤M)(hn:n≤M):PtG M (ifC c v y n):=by
 refine ⟨⟨⟨fun a=>(by cases a),fun _=>?_⟩,Or.inr (Or.inr (Or.inl rfl)),fun a=>(by cases a)⟩,⟨?_,by show 0<_;omega,by show 0<_;omega,hv⟩,by show (0:Int)≤(y:Int);omega,by show (y:Int)≤_;omega,by show (0:Int)≤(n:Int);omega,by show (n:Int)≤_;omega⟩
 ·show c=21∨c=37∨c=53∨c=69
  omega
 ·show c<65536
  omega
theorem bits_g {a m v y n:Nat}(h4:a%4=0)(h60:a≤60)(hm:m<4294967296)(hv:v<4294967296)(hy:y≤M)(hn:n≤M):AllG M (bitsL a m v y n):=
 (AllG.nil.cons (g_if (Or.inl rfl) hv hy hn)).cons (g_mk hm) |>.cons (g_load h4 h60)
theorem equal_g {k a m v y n:Nat}(ha:a<6)(hm:m<18446744073709551616)(hv:v<18446744073709551616)(hy:y≤M)(hn:n≤M)(hk:(equalL k a m v y n).2≤M):AllG M (equalL k a m v y n).1:=by
 unfold equalL at hk ⊢
 split at hk
 ·rename_i h;rw [if_pos h]
  exact bits_g (by omega) (by omega) (by omega) (by omega) hy hn
 ·rename_i h;rw [if_neg h]
  simp only at hk
  exact (bits_g (by omega) (by omega) (by omega) (by omega) hk hn).app ((bits_g (by omega) (by omega) (by omega) (by omega) hy hn).cons (g_here hk))
theorem above_g {k a how v y n:Nat}(ha:a<6)(hh:how=32∨how=48)(hv:v<18446744073709551616)(hy:y≤M)(hn:n≤M)(hk:(aboveL k a how v y n).2≤M):AllG M (aboveL k a how v y n).1:=by
 unfold aboveL at hk ⊢
 split at hk
 ·rename_i h;rw [if_pos h]
  exact (AllG.nil.cons (g_if (by omega) (by omega) hy hn)).cons (g_load (by omega) (by omega))
 ·rename_i h;rw [if_neg h]
  simp only at hk
  exact ((((((AllG.nil.cons (g_if (by omega) (by omega) hy hn)).cons (g_load (by omega) (by omega))).cons (g_here hk)).cons (g_if (Or.inl rfl) (by omega) hk hn)).cons (g_here (by omega))).cons (g_if (Or.inr (Or.inl rfl)) (by omega) hy (by omega))).cons (g_load (by omega) (by omega))
theorem ask_g {k:Nat}{c:CondM}{y n:Nat}(hc:CWf c)(hne:nevB c=false)(hy:y≤M)(hn:n≤M)(hk:(ask k c y n).2≤M):AllG M (ask k c y n).1:=by
 obtain ⟨a0,a6⟩:=nev_arg hne
 have ha:c.arg.toNat<6:=by omega
 have h64:(18446744073709551615:Nat)<18446744073709551616:=by omega
 unfold ask at hk ⊢
 split at hk
 ·rename_i h;rw [if_pos h];exact equal_g ha h64 hc.v hy hn hk
 ·rename_i h1;rw [if_neg h1]
  split at hk
  ·rename_i h;rw [if_pos h];exact equal_g ha h64 hc.v hn hy hk
  ·rename_i h2;rw [if_neg h2]
   split at hk
   ·rename_i h;rw [if_pos h];exact above_g ha (Or.inr rfl) hc.v hn hy hk
   ·rename_i h3;rw [if_neg h3]
    split at hk
    ·rename_i h;rw [if_pos h];exact above_g ha (Or.inl rfl) hc.v hn hy hk
    ·rename_i h4;rw [if_neg h4]
     split at hk
     ·rename_i h;rw [if_pos h];exact above_g ha (Or.inl rfl) hc.v hy hn hk
     ·rename_i h5;rw [if_neg h5]
      split at hk
      ·rename_i h;rw [if_pos h];exact above_g ha (Or.inr rfl) hc.v hy hn hk
      ·rename_i h6;rw [if_neg h6]
       split at hk
       ·rename_i h;rw [if_pos h];exact equal_g ha hc.m hc.v hy hn hk
       ·rename_i h;rw [if_neg h];exact AllG.nil
theorem conds_g {b:Nat}:∀(l:List CondM)(k:Nat),(∀c∈l,CWf c∧nevB c=false)→b≤k→(condsL b k l).2≤M→AllG M (condsL b k l).1
 | [],k,_,_,_=>AllG.nil
 | c::l,k,hc,hb,hk=>by
  have h1:=(ask_lay (k+1) c (k+1) b).le
  have h2:=(conds_lay b l (ask (k+1) c (k+1) b).2 (by omega)).le
  have hk':(condsL b (ask (k+1) c (k+1) b).2 l).2≤M:=hk
  obtain ⟨w1,w2⟩:=hc c List.mem_cons_self
  show AllG M ((ask (k+1) c (k+1) b).1++hereP (k+1)::(condsL b (ask (k+1) c (k+1) b).2 l).1)
  exact (ask_g w1 w2 (by omega) (by omega) (by omega)).app ((conds_g l _ (fun d hd=>hc d (List.mem_cons_of_mem _ hd)) (by omega) hk').cons (g_here (by omega)))
structure BWf (b:BrM):Prop where
 act:b.act<4294967296
 cs:∀c∈b.conds,CWf c
structure CaWf (c:CaM):Prop where
 num:c.num<4294967296
 brs:∀b∈c.brs,BWf b
theorem br_g {k:Nat}{b:BrM}(hb:BWf b)(hk:(brL k b).2≤M):AllG M (brL k b).1:=by
 have h1:=(conds_lay (k+1) b.conds (k+1) (Nat.le_refl _)).le
 unfold brL at hk ⊢
 split at hk
 ·rename_i h;rw [if_pos h];exact AllG.nil
 ·rename_i h;rw [if_neg h]
  simp only at hk
  refine (conds_g b.conds (k+1) (fun c hc=>⟨hb.cs c hc,?_⟩) (Nat.le_refl _) hk).app ((AllG.nil.cons (g_here (by omega))).cons (g_ret hb.act))
  rw [←Bool.not_eq_true]
  exact fun e=>h (List.any_eq_true.2 ⟨c,hc,e⟩)
theorem brs_g:∀(l:List BrM)(k:Nat),(∀b∈l,BWf b)→(brsL k l).2≤M→AllG M (brsL k l).1
 | [],k,_,_=>AllG.nil
 | b::l,k,hb,hk=>by
  have h2:=(brs_lay l (brL k b).2).le
  have hk':(brsL (brL k b).2 l).2≤M:=hk
  exact (br_g (hb b List.mem_cons_self) (by omega)).app (brs_g l _ (fun c hc=>hb c (List.mem_cons_of_mem _ hc)) hk')
theorem call_g {d k:Nat}{c:CaM}(hd:d<4294967296)(hc:CaWf c)(hk:(callL d k c).2≤M):AllG M (callL d k c).1:=by
 have h1:=(brs_lay c.brs (k+2)).le
 have hk':(brsL (k+2) c.brs).2≤M:=hk
 exact (((brs_g c.brs (k+2) hc.brs hk').app ((AllG.nil.cons (g_ret hd)).cons (g_here (by omega)))).cons (g_here (by omega))).cons (g_if (Or.inl rfl) hc.num (by omega) (by omega))
theorem mid_lt {l:List CaM}(hc:∀c∈l,CaWf c):midN l<4294967296:=by
 unfold midN
 cases h:l[l.length / 2]? with
 | none=>simp
 | some c=>exact (hc c (List.mem_of_getElem? h)).num
theorem search_g {d:Nat}(hd:d<4294967296):∀(f k:Nat) (l:List CaM),(∀c∈l,CaWf c)→(searchL d f k l).2≤M→AllG M (searchL d f k l).1
 | 0,k,l,_,_=>AllG.nil
 | f+1,k,l,hc,hk=>by
  unfold searchL at hk ⊢
  split at hk
  ·rename_i h1
   rw [if_pos h1]
   cases h:l[0]? with
   | none=>exact AllG.nil
   | some c=>
    rw [h] at hk
    exact call_g hd (hc c (List.mem_of_getElem? h)) hk
  ·rename_i h1
   rw [if_neg h1]
   have l1:=(search_lay d f (k+2) (l.take (l.length / 2))).le
   have l2:=(search_lay d f (searchL d f (k+2) (l.take (l.length / 2))).2 (l.drop (l.length / 2))).le
   simp only at hk ⊢
   exact (((search_g hd f _ _ (fun c h=>hc c (List.mem_of_mem_take h)) (by omega)).app ((search_g hd f _ _ (fun c h=>hc c (List.mem_of_mem_drop h)) hk).cons (g_here (by omega)))).cons (g_here (by omega))).cons (g_if (Or.inr (Or.inr rfl)) (mid_lt hc) (by omega) (by omega))
theorem plan_g {d:Nat}{l:List CaM}(hd:d<4294967296)(hc:∀c∈l,CaWf c)(h2:2≤M)(hk:(searchL d l.length 2 l).2≤M):AllG M (planL d l):=by
 unfold planL
 refine (bits_g (by omega) (by omega) (by omega) (by omega) (by omega) h2).app (((AllG.cons (g_here (by omega)) ?_).cons (g_ret (by omega))).cons (g_here h2))
 unfold callsL
 split
 ·exact AllG.nil.cons (g_ret hd)
 ·exact (search_g hd _ _ _ hc hk).cons (g_load (by omega) (by omega))
end
/-! How it ends. -/
theorem call_last (d k:Nat)(c:CaM):LastR (callL d k c).1:=by
 unfold callL
 exact last_appR (a:=[_,_]) (last_appR (a:=_) (last_appR (a:=[_]) (Or.inl ⟨rfl,rfl,rfl⟩)))
theorem search_last (d:Nat):∀(f k:Nat) (l:List CaM),l.length≤f→l≠[]→LastR (searchL d f k l).1
 | 0,k,l,hf,hn=>absurd (List.eq_nil_of_length_eq_zero (by omega)) hn
 | f+1,k,l,hf,hn=>by
  unfold searchL
  split
  ·rename_i h1
   obtain ⟨c,rfl⟩:=List.length_eq_one_iff.1 h1
   exact call_last d k c
  ·have h2:2≤l.length:=by
    have:l.length≠0:=fun e=>hn (List.eq_nil_of_length_eq_zero e)
    omega
   have:=search_last d f (searchL d f (k+2) (l.take (l.length / 2))).2 (l.drop (l.length / 2)) (by rw [List.length_drop];omega) (fun e=>by have:=congrArg List.length e;rw [List.length_drop,List.length_nil] at this;omega)
   exact last_appR (a:=[_,_]) (last_appR (a:=_) (last_appR (a:=[_]) this))
theorem plan_last (d:Nat)(l:List CaM):LastR (planL d l):=by
 unfold planL
 refine last_appR (last_appR (a:=[hereP 2,retP 2147483648,hereP 1]) (b:=callsL d l) ?_)
 unfold callsL
 split
 ·exact Or.inl ⟨rfl,rfl,rfl⟩
 ·rename_i h
  exact last_appR (a:=[_]) (search_last d l.length 2 l (Nat.le_refl _) h)
/-! How many there are. -/
def szB (b:BrM):Nat:=8*b.conds.length+2
def szC (c:CaM):Nat:=(c.brs.map szB).sum+7
theorem equal_len (k a m v y n:Nat):(equalL k a m v y n).1.length≤7:=by
 unfold equalL bitsL
 split<;>simp
theorem above_len (k a how v y n:Nat):(aboveL k a how v y n).1.length≤7:=by
 unfold aboveL
 split<;>simp
theorem ask_len (k:Nat)(c:CondM)(y n:Nat):(ask k c y n).1.length≤7:=by
 unfold ask
 repeat' split
 all_goals first|exact equal_len ..|exact above_len ..|exact Nat.zero_le _
theorem conds_len (b:Nat):∀(l:List CondM) (k:Nat),(condsL b k l).1.length≤8*l.length
 | [],k=>Nat.le_refl _
 | c::l,k=>by
  have h1:=ask_len (k+1) c (k+1) b
  have h2:=conds_len b l (ask (k+1) c (k+1) b).2
  show ((ask (k+1) c (k+1) b).1++hereP (k+1)::(condsL b (ask (k+1) c (k+1) b).2 l).1).length≤_
  rw [List.length_append,List.length_cons,List.length_cons]
  omega
theorem br_len (k:Nat)(b:BrM):(brL k b).1.length≤szB b:=by
 have:=conds_len (k+1) b.conds (k+1)
 unfold brL szB
 split
 ·exact Nat.zero_le _
 ·rw [List.length_append]
  simp only [List.length_cons,List.length_nil]
  omega
theorem brs_len:∀(l:List BrM)(k:Nat),(brsL k l).1.length≤(l.map szB).sum
 | [],k=>Nat.le_refl _
 | b::l,k=>by
  have h1:=br_len k b
  have h2:=brs_len l (brL k b).2
  show ((brL k b).1++(brsL (brL k b).2 l).1).length≤_
  rw [List.length_append,List.map_cons,List.sum_cons]
  omega
theorem call_len (d k:Nat)(c:CaM):(callL d k c).1.length+3≤szC c:=by
 have:=brs_len c.brs (k+2)
 unfold callL szC
 simp only [List.length_cons,List.length_append,List.length_nil]
 omega
theorem search_len (d:Nat):∀(f k:Nat) (l:List CaM),l.length≤f→l≠[]→(searchL d f k l).1.length+3≤(l.map szC).sum
 | 0,k,l,hf,hn=>absurd (List.eq_nil_of_length_eq_zero (by omega)) hn
 | f+1,k,l,hf,hn=>by
  unfold searchL
  split
  ·rename_i h1
   obtain ⟨c,rfl⟩:=List.length_eq_one_iff.1 h1
   have:=call_len d k c
   simpa using this
  ·have h2:2≤l.length:=by
    have:l.length≠0:=fun e=>hn (List.eq_nil_of_length_eq_zero e)
    omega
   have i1:=search_len d f (k+2) (l.take (l.length / 2)) (by rw [List.length_take];omega) (fun e=>by have:=congrArg List.length e;rw [List.length_take,List.length_nil] at this;omega)
   have i2:=search_len d f (searchL d f (k+2) (l.take (l.length / 2))).2 (l.drop (l.length / 2)) (by rw [List.length_drop];omega) (fun e=>by have:=congrArg List.length e;rw [List.length_drop,List.length_nil] at this;omega)
   have e:(l.map szC).sum=((l.take (l.length / 2)).map szC).sum+((l.drop (l.length / 2)).map szC).sum:=by rw [←List.sum_append,←List.map_append,List.take_append_drop]
   simp only [List.length_cons,List.length_append]
   omega
theorem plan_len (d:Nat)(l:List CaM):(planL d l).length≤8+(l.map szC).sum:=by
 have h:(callsL d l).length≤1+(l.map szC).sum:=by
  unfold callsL
  split
  ·simp
  ·rename_i hn
   have:=search_len d l.length 2 l (Nat.le_refl _) hn
   rw [List.length_cons];omega
 unfold planL bitsL
 simp only [List.length_append,List.length_cons,List.length_nil]
 omega
theorem wt_len:∀l:List PtM,wtL l≤3*l.length
 | []=>Nat.le_refl _
 | p::l=>by
  have:=wt_len l
  show wtP p+wtL l≤_
  rw [List.length_cons]
  unfold wtP
  split
  ·omega
  ·split<;>omega
theorem sum_le {α:Type}(f:α→Nat)(b:Nat):∀l:List α,(∀x∈l,f x≤b)→(l.map f).sum≤b*l.length
 | [],_=>Nat.le_refl _
 | x::l,h=>by
  have h1:=h x List.mem_cons_self
  have h2:=sum_le f b l (fun y hy=>h y (List.mem_cons_of_mem _ hy))
  rw [List.map_cons,List.sum_cons,List.length_cons,Nat.mul_succ]
  omega
structure PlanG (d:Nat)(l:List CaM):Prop where
 ok:∀p∈planL d l,p.ok
 fin:∀p∈planL d l,Fin1 p
theorem plan_fine {d:Nat}{l:List CaM}(hd:d<4294967296)(hc:∀c∈l,CaWf c)(hs:(searchL d l.length 2 l).2≤1000000):PlanG d l:=by
 have h:=plan_g (M:=1000000) hd hc (by omega) hs
 exact ⟨fun p hp=>(h p hp).ok (Nat.le_refl _),fun p hp=>(h p hp).fin⟩
end Go.Proofs.YtcnebdjhhfnmoaaGreatDoor.Lo
namespace Go.Proofs.YtcnebdjhhfnmoaaGreatDoor.Lo
open Go.Proofs.YtcnebdjhhfnmoaaGreatDoor.Ju Go.Proofs.YtcnebdjhhfnmoaaGreatDoor.Ir Go.Proofs.YtcnebdjhhfnmoaaGreatDoor.Me
theorem rec_bs (x:RcM)(hx:x.ok):∃bs,Rec.IsRec bs∧Rec.recL bs=x.cells∧Sees (recW bs) x:=by
 obtain ⟨bs,hl,hb,e0,e1,e2,e3,e4,e5,e6,e7,e8⟩:=Rec.record_bytes x.num x.arch x.at_ x.a0 x.a1 x.a2 x.a3 x.a4 x.a5 hx.num hx.arch hx.at_ hx.a0 hx.a1 hx.a2 hx.a3 hx.a4 hx.a5
 have hs:=Rec.small8_of hb
 refine ⟨bs,⟨hl,hs⟩,by rw [Rec.recL,e0,e1,e2,e3,e4,e5,e6,e7,e8];rfl,⟨e0,e1,fun k hk=>?_,fun k hk=>?_⟩⟩
 ·show Rec.leN bs (16+8*k) 4=_
  rw [←Rec.lo_of bs hs]
  congr 1
  rcases six hk with rfl|rfl|rfl|rfl|rfl|rfl
  ·exact e3
  ·exact e4
  ·exact e5
  ·exact e6
  ·exact e7
  ·exact e8
 ·show Rec.leN bs (16+8*k+4) 4=_
  rw [←Rec.hi_of bs hs]
  congr 1
  rcases six hk with rfl|rfl|rfl|rfl|rfl|rfl
  ·exact e3
  ·exact e4
  ·exact e5
  ·exact e6
  ·exact e7
  ·exact e8
end Go.Proofs.YtcnebdjhhfnmoaaGreatDoor.Lo
