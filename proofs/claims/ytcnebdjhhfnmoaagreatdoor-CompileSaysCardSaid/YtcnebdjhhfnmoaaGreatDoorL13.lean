/- What Tidy leaves, further: uses, what is left out; a fixed point. Lists alone. -/
import Derived.Test.YtcnebdjhhfnmoaaGreatDoorL11
import Derived.Test.YtcnebdjhhfnmoaaGreatDoorL12
set_option maxHeartbeats 32000000
set_option maxRecDepth 100000
namespace Go.Proofs.YtcnebdjhhfnmoaaGreatDoor.Ju
def useN (n:Int)(p:PtM):Int:=
 if p.kd=3 then (if p.tQ=n then 1 else 0)+(if p.el=n then 1 else 0) else if p.kd=4 then (if p.tQ=n then 1 else 0) else 0
def useL (n:Int):List PtM→Int
 | []=>0
 | p::t=>useN n p+useL n t
theorem useL_cons (n:Int)(p:PtM)(t:List PtM):useL n (p::t)=useN n p+useL n t:=rfl
theorem useN_nn (n:Int)(p:PtM):0≤useN n p:=by unfold useN;repeat' split<;>omega
theorem useL_nn (n:Int):∀l:List PtM,0≤useL n l
 | []=>Int.le_refl _
 | p::t=>by rw [useL_cons];have h1:=useN_nn n p;have h2:=useL_nn n t;omega
theorem useN_way {n:Int}{p:PtM}(h:WayTo p n):1≤useN n p:=by
 unfold useN
 rcases h with ⟨h,h2|h2⟩|⟨h,h2⟩
 ·rw [if_pos h,if_pos h2];split<;>omega
 ·rw [if_pos h,if_pos h2];split<;>omega
 ·rw [if_neg (by omega),if_pos h,if_pos h2];omega
theorem useN_no {n:Int}{p:PtM}(h:¬WayTo p n):useN n p=0:=by
 unfold useN
 by_cases h3:p.kd=3
 ·rw [if_pos h3,if_neg (fun e=>h (Or.inl ⟨h3,Or.inl e⟩)),if_neg (fun e=>h (Or.inl ⟨h3,Or.inr e⟩))];rfl
 ·rw [if_neg h3]
  by_cases h4:p.kd=4
  ·rw [if_pos h4,if_neg (fun e=>h (Or.inr ⟨h4,e⟩))]
  ·rw [if_neg h4]
theorem useL_way {n:Int}:∀{l:List PtM},useL n l≠0→∃p∈l,WayTo p n
 | [],h=>absurd rfl h
 | p::t,h=>by
  by_cases hw:WayTo p n
  ·exact ⟨p,List.mem_cons_self,hw⟩
  ·rw [useL_cons,useN_no hw] at h
   obtain ⟨q,hq,h2⟩:=useL_way (n:=n) (l:=t) (by omega)
   exact ⟨q,List.mem_cons_of_mem _ hq,h2⟩
theorem gW_cons (n m v:Int)(W:List (Int×Int)):gW n ((m,v)::W)=if m=n then v else gW n W:=by
 unfold gW
 rw [lk_cons]
 split<;>rfl
theorem gW_cnt (n:Int)(p:PtM)(k:Int)(W:List (Int×Int)):gW n (cntW p k W)=gW n W+k*useN n p:=by
 unfold cntW useN
 by_cases h3:p.kd=3
 ·rw [if_pos h3,if_pos h3,gW_cons,gW_cons,gW_cons]
  by_cases a:p.tQ=n<;>by_cases b:p.el=n
  ·subst a;rw [if_pos b,if_pos rfl,if_pos b,if_pos b.symm];omega
  ·rw [if_neg b,if_pos a,if_pos a,if_neg b,a];omega
  ·rw [if_pos b,if_neg a,if_pos b,if_neg (fun e=>a (e.trans b)),b];omega
  ·rw [if_neg b,if_neg a,if_neg a,if_neg b];omega
 ·rw [if_neg h3,if_neg h3]
  by_cases h4:p.kd=4
  ·rw [if_pos h4,if_pos h4,gW_cons]
   by_cases a:p.tQ=n
   ·rw [if_pos a,if_pos a,a];omega
   ·rw [if_neg a,if_neg a];omega
  ·rw [if_neg h4,if_neg h4];omega
theorem gW_fold (n:Int):∀(l:List PtM) (W:List (Int×Int)),gW n (l.foldl (fun W p=>cntW p 1 W) W)=gW n W+useL n l
 | [],W=>by simp [useL]
 | p::t,W=>by rw [List.foldl_cons,gW_fold n t,gW_cnt,useL_cons];omega
theorem gW_uses (n:Int)(l:List PtM):gW n (usesW l)=useL n l:=by
 unfold usesW
 rw [gW_fold]
 show (0:Int)+_=_
 omega
/-! What is left out. -/
def aliveR:Bool→List (Int×Int)→List PtM→List PtM
 | _,_,[]=>[]
 | e,W,p::t=>if p.kd=1∧gW p.tQ W=0 then aliveR e W t else if e=true∧p.kd≠1 then aliveR e (cntW p (-1) W) t else p::aliveR (endsB p) W t
theorem alive_rec:∀(l:List PtM)(s:AlM),(l.foldl aliveS s).left=s.left++aliveR s.ended s.W l
 | [],s=>by simp [aliveR]
 | p::t,s=>by
  rw [List.foldl_cons,alive_rec t]
  unfold aliveS
  conv=>rhs;unfold aliveR
  by_cases h1:p.kd=1∧gW p.tQ s.W=0
  ·rw [if_pos h1,if_pos h1]
  ·rw [if_neg h1,if_neg h1]
   by_cases h2:s.ended=true∧p.kd≠1
   ·rw [if_pos h2,if_pos h2]
   ·rw [if_neg h2,if_neg h2,List.append_assoc];rfl
theorem aliveF_rec (l:List PtM):aliveF l=aliveR false (usesW l) l:=by unfold aliveF;rw [alive_rec];rfl
theorem aliveR_len:∀(l:List PtM)(e:Bool)(W:List (Int×Int)),(aliveR e W l).length≤l.length
 | [],_,_=>Nat.le_refl _
 | p::t,e,W=>by
  unfold aliveR
  split
  ·have:=aliveR_len t e W;simp;omega
  ·split
   ·have:=aliveR_len t e (cntW p (-1) W);simp;omega
   ·have:=aliveR_len t (endsB p) W;simp;omega
def Kept:Bool→List (Int×Int)→List PtM→Prop
 | _,_,[]=>True
 | e,W,p::t=>¬(p.kd=1∧gW p.tQ W=0)∧¬(e=true∧p.kd≠1)∧Kept (endsB p) W t
theorem kept_of:∀(l:List PtM)(e:Bool)(W:List (Int×Int)),(aliveR e W l).length=l.length→Kept e W l
 | [],_,_,_=>trivial
 | p::t,e,W,h=>by
  unfold aliveR at h
  by_cases h1:p.kd=1∧gW p.tQ W=0
  ·rw [if_pos h1] at h;have:=aliveR_len t e W;simp at h;omega
  ·rw [if_neg h1] at h
   by_cases h2:e=true∧p.kd≠1
   ·rw [if_pos h2] at h;have:=aliveR_len t e (cntW p (-1) W);simp at h;omega
   ·rw [if_neg h2] at h
    exact ⟨h1,h2,kept_of t (endsB p) W (by simpa using h)⟩
theorem kept_same:∀(l:List PtM)(e:Bool)(W:List (Int×Int)),Kept e W l→aliveR e W l=l
 | [],_,_,_=>rfl
 | p::t,e,W,h=>by
  obtain ⟨h1,h2,h3⟩:=h
  unfold aliveR
  rw [if_neg h1,if_neg h2,kept_same t _ W h3]
theorem aliveR_fwd:∀(l:List PtM)(e:Bool)(W:List (Int×Int))(c:Int→Int),(∀n,0≤c n)→(∀n,gW n W=c n+useL n l)→Fwd l →
  Fwd (aliveR e W l)∧(∀n,HasN n l→0<c n→HasN n (aliveR e W l))∧(∀n,HasN n (aliveR e W l)→HasN n l)
 | [],_,_,_,_,_,_=>⟨trivial,fun n h=>absurd h (has_nil n),fun n h=>absurd h (has_nil n)⟩
 | p::t,e,W,c,hc,hW,h=>by
  obtain ⟨f1,f2,f3⟩:=h
  unfold aliveR
  by_cases h1:p.kd=1∧gW p.tQ W=0
  ·rw [if_pos h1]
   have hz:=hW p.tQ
   have h0:=hc p.tQ
   have hu:=useL_nn p.tQ (p::t)
   have hnw:∀n,¬WayTo p n:=fun n a=>by rcases a with ⟨a,_⟩|⟨a,_⟩<;>omega
   have ih:=aliveR_fwd t e W c hc (fun n=>by rw [hW n,useL_cons,useN_no (hnw n)];omega) f1
   refine ⟨ih.1,fun n a b=>?_,fun n a=>has_cons.2 (Or.inr (ih.2.2 n a))⟩
   rcases has_cons.1 a with ⟨_,a⟩|a
   ·subst a;omega
   ·exact ih.2.1 n a b
  ·rw [if_neg h1]
   by_cases h2:e=true∧p.kd≠1
   ·rw [if_pos h2]
    have ih:=aliveR_fwd t e (cntW p (-1) W) c hc (fun n=>by rw [gW_cnt,hW n,useL_cons];omega) f1
    refine ⟨ih.1,fun n a b=>?_,fun n a=>has_cons.2 (Or.inr (ih.2.2 n a))⟩
    rcases has_cons.1 a with ⟨a,_⟩|a
    ·exact absurd a h2.2
    ·exact ih.2.1 n a b
   ·rw [if_neg h2]
    have ih:=aliveR_fwd t (endsB p) W (fun n=>c n+useN n p) (fun n=>by have:=hc n;have:=useN_nn n p;show 0≤c n+useN n p;omega) (fun n=>by rw [hW n,useL_cons];show _=c n+useN n p+useL n t;omega) f1
    refine ⟨⟨ih.1,fun a b=>f2 a (ih.2.2 _ b),fun n a=>ih.2.1 n (f3 n a) (by have:=useN_way a;have:=hc n;show 0<c n+useN n p;omega)⟩,fun n a b=>?_,fun n a=>?_⟩
    ·rcases has_cons.1 a with a|a
     ·exact has_cons.2 (Or.inl a)
     ·exact has_cons.2 (Or.inr (ih.2.1 n a (by have:=useN_nn n p;show 0<c n+useN n p;omega)))
    ·rcases has_cons.1 a with a|a
     ·exact has_cons.2 (Or.inl a)
     ·exact has_cons.2 (Or.inr (ih.2.2 n a))
theorem aliveF_fwd {l:List PtM}(h:Fwd l):Fwd (aliveF l):=by
 rw [aliveF_rec]
 exact (aliveR_fwd l false (usesW l) (fun _=>0) (fun _=>Int.le_refl _) (fun n=>by rw [gW_uses];show _=(0:Int)+_;omega) h).1
theorem leav_has (n:Int):∀l:List PtM,HasN n (leavF l)↔HasN n l
 | []=>Iff.rfl
 | p::t=>by
  unfold leavF
  by_cases h:p.kd=4∧cnB p.tQ t=true
  ·rw [if_pos h,has_cons,leav_has n t]
   exact ⟨Or.inr,fun a=>by rcases a with ⟨a,_⟩|a;omega;exact a⟩
  ·rw [if_neg h,has_cons,has_cons,leav_has n t]
theorem leav_fwd:∀{l:List PtM},Fwd l→Fwd (leavF l)
 | [],_=>trivial
 | p::t,h=>by
  obtain ⟨f1,f2,f3⟩:=h
  unfold leavF
  split
  ·exact leav_fwd f1
  ·exact ⟨leav_fwd f1,fun a b=>f2 a ((leav_has _ t).1 b),fun n a=>(leav_has n t).2 (f3 n a)⟩
theorem round_fwd {l:List PtM}(h:Fwd l):Fwd (roundF l):=by
 unfold roundF
 rw [leadF_rec]
 exact leav_fwd (aliveF_fwd (lead_inv h).fwd)
def Left:List PtM→Prop
 | []=>True
 | p::t=>¬(p.kd=4∧cnB p.tQ t=true)∧Left t
theorem left_of:∀(l:List PtM),(leavF l).length=l.length→Left l
 | [],_=>trivial
 | p::t,h=>by
  unfold leavF at h
  by_cases h1:p.kd=4∧cnB p.tQ t=true
  ·rw [if_pos h1] at h;have:=leavF_len t;simp at h;omega
  ·rw [if_neg h1] at h
   exact ⟨h1,left_of t (by simpa using h)⟩
theorem left_same:∀(l:List PtM),Left l→leavF l=l
 | [],_=>rfl
 | p::t,h=>by unfold leavF;rw [if_neg h.1,left_same t h.2]
structure Tidied (y:List PtM):Prop where
 kept:Kept false (usesW y) y
 left:Left y
 bad:∀n,¬BadH n y
 fwd:Fwd y
theorem bad_kept {n:Int}{W:List (Int×Int)}:∀{l:List PtM}{e:Bool},BadH n l→Kept e W l→gW n W≠0
 | p::t,e,h,hk=>by
  rcases h with ⟨h1,h2,_⟩|h
  ·intro h0;exact hk.1 ⟨h1,by rw [h2];exact h0⟩
  ·exact bad_kept h hk.2.2
theorem round_same {z:List PtM}(hz:Fwd z)(h:(roundF z).length=z.length):Tidied (roundF z):=by
 have hI:=lead_inv hz
 have h1:=leavF_len (aliveF (leadF z))
 have h2:=aliveF_len (leadF z)
 have h3:=leadF_len z
 have e1:(aliveF (leadF z)).length=(leadF z).length:=by unfold roundF at h;omega
 have hk:Kept false (usesW (leadF z)) (leadF z):=kept_of _ _ _ (by rw [←aliveF_rec];exact e1)
 have e2:aliveF (leadF z)=leadF z:=by rw [aliveF_rec];exact kept_same _ _ _ hk
 have hl:Left (leadF z):=left_of _ (by unfold roundF at h;rw [e2] at h;omega)
 have e3:roundF z=leadF z:=by unfold roundF;rw [e2,left_same _ hl]
 rw [e3]
 refine ⟨hk,hl,fun n hb=>?_,by rw [leadF_rec];exact hI.fwd⟩
 have hg:=bad_kept hb hk
 rw [gW_uses] at hg
 obtain ⟨p,hp,hw⟩:=useL_way hg
 rw [leadF_rec] at hb hp
 exact lead_bad z n hb (hI.ways p hp n hw)
theorem tidy_tidied:∀(k:Nat)(x:List PtM),x.length<k→Fwd x→Tidied (tidyF x)
 | 0,_,h,_=>by omega
 | k+1,x,h,hf=>by
  by_cases e:(roundF x).length=x.length
  ·rw [tidyF_end e];exact round_same hf e
  ·rw [tidyF_on e]
   have:=roundF_len x
   exact tidy_tidied k (roundF x) (by omega) (round_fwd hf)
end Go.Proofs.YtcnebdjhhfnmoaaGreatDoor.Ju
namespace Go.Proofs.YtcnebdjhhfnmoaaGreatDoor.Ju
theorem has_app {n:Int}:∀{a b:List PtM},HasN n (a++b)↔HasN n a∨HasN n b
 | [],b=>⟨Or.inr,fun h=>by rcases h with h|h;exact absurd h (has_nil n);exact h⟩
 | p::a,b=>by
  rw [List.cons_append,has_cons,has_cons,has_app (a:=a)]
  constructor
  ·rintro (h|h|h)
   ·exact Or.inl (Or.inl h)
   ·exact Or.inl (Or.inr h)
   ·exact Or.inr h
  ·rintro ((h|h)|h)
   ·exact Or.inl h
   ·exact Or.inr (Or.inl h)
   ·exact Or.inr (Or.inr h)
theorem tidyN_len:∀(k:Nat)(l:List PtM),(tidyN k l).length≤l.length
 | 0,_=>Nat.le_refl _
 | k+1,l=>by
  unfold tidyN
  have:=roundF_len l
  split
  ·exact this
  ·exact Nat.le_trans (tidyN_len k _) this
theorem tidyF_len (l:List PtM):(tidyF l).length≤l.length:=tidyN_len _ _
theorem tidyN_ok:∀(k:Nat){l:List PtM},(∀p∈l,p.ok)→∀p∈tidyN k l,p.ok
 | 0,_,h=>h
 | k+1,l,h=>by
  unfold tidyN
  split
  ·exact roundF_ok h
  ·exact tidyN_ok k (roundF_ok h)
theorem tidyF_oks {l:List PtM}(h:∀p∈l,p.ok):∀p∈tidyF l,p.ok:=tidyN_ok _ h
/-! At a place. -/
/-! Names that are used. -/
end Go.Proofs.YtcnebdjhhfnmoaaGreatDoor.Ju
namespace Go.Proofs.YtcnebdjhhfnmoaaGreatDoor.Ju
theorem val_here {W:Nat→Nat}{p:PtM}{t:List PtM}(h:p.kd=1)(A:Nat):valL W (p::t) A=valL W t A:=by rw [valL_cons,if_neg (by omega),if_neg (by omega),if_neg (by omega)]
theorem aft_here {p:PtM}{t:List PtM}{n:Int}(h:p.kd=1)(e:p.tQ=n):aft n (p::t)=p::t:=by conv=>lhs;unfold aft;rw [if_pos ⟨h,e⟩]
theorem aft_no {p:PtM}{t:List PtM}{n:Int}(h:p.kd≠1):aft n (p::t)=aft n t:=aft_other (fun a=>h a.1)
theorem aft_ne {p:PtM}{t:List PtM}{n:Int}(h:p.tQ≠n):aft n (p::t)=aft n t:=aft_other (fun a=>h a.2)
structure Same (W:Nat→Nat)(x y:List PtM):Prop where
 all:∀A,valL W x A=valL W y A
 at_:∀n A,valL W (aft n x) A=valL W (aft n y) A
theorem Same.cons {W:Nat→Nat}{x y:List PtM}(h:Same W x y)(p:PtM):Same W (p::x) (p::y):=by
 have ha:∀A,valL W (p::x) A=valL W (p::y) A:=fun A=>by
  rw [valL_cons,valL_cons,h.at_ p.tQ A,h.at_ _ A,h.all,h.all,h.all]
 refine ⟨ha,fun n A=>?_⟩
 by_cases e:p.kd=1∧p.tQ=n
 ·rw [aft_here e.1 e.2,aft_here e.1 e.2];exact ha A
 ·rw [aft_other e,aft_other e];exact h.at_ n A
theorem cn_val {W:Nat→Nat}{n:Int}:∀{t:List PtM},cnB n t=true→∀A,valL W (aft n t) A=valL W t A
 | [],h,_=>by cases h
 | q::t,h,A=>by
  unfold cnB at h
  by_cases k1:q.kd≠1
  ·rw [if_pos k1] at h;cases h
  ·rw [if_neg k1] at h
   by_cases e:q.tQ=n
   ·rw [aft_here (by omega) e]
   ·rw [if_neg e] at h
    rw [aft_ne e,val_here (by omega)]
    exact cn_val h A
theorem leav_same (W:Nat→Nat):∀l:List PtM,Same W (leavF l) l
 | []=>⟨fun _=>rfl,fun _ _=>rfl⟩
 | p::t=>by
  have ih:=leav_same W t
  unfold leavF
  by_cases h:p.kd=4∧cnB p.tQ t=true
  ·rw [if_pos h]
   refine ⟨fun A=>?_,fun n A=>?_⟩
   ·rw [valL_cons,if_pos h.1,cn_val h.2];exact ih.all A
   ·rw [aft_no (show p.kd≠1 by omega)];exact ih.at_ n A
  ·rw [if_neg h];exact ih.cons p
structure LdV (W:Nat→Nat)(z:List PtM)(s:LdM):Prop where
 same:Same W s.l z
 o:∀n t,lk n s.o=some t→∀A,valL W (aft n z) A=valL W (aft t z) A
 nx:s.nx.kd=4→∀A,valL W z A=valL W (aft s.nx.tQ z) A
theorem lead_val (W:Nat→Nat):∀{z:List PtM},Fwd z→LdV W z (leadR z)
 | [],_=>⟨⟨fun _=>rfl,fun _ _=>rfl⟩,fun n t h=>by simp [leadR,lk] at h,fun h=>by simp [leadR,zPt] at h⟩
 | p::t,h=>by
  obtain ⟨h1,h2,h3⟩:=h
  have ih:=lead_val W h1
  have hI:=lead_inv h1
  obtain ⟨s,hs⟩:∃s,s=leadR t:=⟨_,rfl⟩
  rw [←hs] at ih hI
  by_cases k1:p.kd=1
  ·have hp:=h2 k1
   have ne:∀{n:Int},HasN n t→p.tQ≠n:=fun a e=>hp (by rw [e];exact a)
   have ho:∀n u,lk n s.o=some u→∀A,valL W (aft n (p::t)) A=valL W (aft u (p::t)) A:=fun n u hu A=>by
    rw [aft_ne (ne (hI.keys n u hu).1),aft_ne (ne (hI.keys n u hu).2)];exact ih.o n u hu A
   have hn:s.nx.kd=4→∀A,valL W (p::t) A=valL W (aft s.nx.tQ (p::t)) A:=fun a A=>by
    rw [val_here k1,aft_ne (ne (hI.nx a).1)];exact ih.nx a A
   by_cases k4:s.nx.kd=4
   ·rw [show leadR (p::t)=⟨p::s.l,(p.tQ,s.nx.tQ)::s.o,s.nx⟩ by conv=>lhs;unfold leadR;rw [if_pos k1,←hs,if_pos k4]]
    refine ⟨ih.same.cons p,fun n u hu A=>?_,hn⟩
    rw [lk_cons] at hu
    split at hu
    ·rename_i e
     cases hu
     rw [aft_here k1 e];exact hn k4 A
    ·exact ho n u hu A
   ·rw [show leadR (p::t)=⟨p::s.l,s.o,s.nx⟩ by conv=>lhs;unfold leadR;rw [if_pos k1,←hs,if_neg k4]]
    exact ⟨ih.same.cons p,ho,hn⟩
  ·rw [show leadR (p::t)=⟨ledP s.o p::s.l,s.o,ledP s.o p⟩ by conv=>lhs;unfold leadR;rw [if_neg k1,←hs]]
   have he:∀n A,valL W (aft (endF s.o n) t) A=valL W (aft n t) A:=fun n A=>by
    rcases end_one hI.inv n with ⟨_,e⟩|⟨u,e1,e2⟩
    ·rw [e]
    ·rw [e2];exact (ih.o n u e1 A).symm
   have hk:(ledP s.o p).kd≠1:=by rw [led_kd];exact k1
   have ha:∀A,valL W (ledP s.o p::s.l) A=valL W (p::t) A:=fun A=>by
    rw [←(ih.same.cons p).all A]
    unfold ledP
    by_cases k3:p.kd=3
    ·rw [if_pos k3,valL_cons,valL_cons,if_neg (show ¬p.kd=4 by omega),if_neg (show ¬p.kd=4 by omega),if_pos k3,if_pos k3]
     simp only
     split
     ·rw [ih.same.at_,ih.same.at_,he]
     ·rw [ih.same.at_,ih.same.at_,he]
    ·rw [if_neg k3]
     by_cases k4:p.kd=4
     ·rw [if_pos k4,valL_cons,valL_cons,if_pos k4,if_pos k4]
      simp only
      rw [ih.same.at_,ih.same.at_,he]
     ·rw [if_neg k4]
   refine ⟨⟨ha,fun n A=>?_⟩,fun n u hu A=>?_,fun a A=>?_⟩
   ·rw [aft_no hk,aft_no k1];exact ih.same.at_ n A
   ·rw [aft_no k1,aft_no k1];exact ih.o n u hu A
   ·simp only at a ⊢
    rw [led_kd] at a
    rw [aft_no k1,valL_cons,if_pos a,show (ledP s.o p).tQ=endF s.o p.tQ by unfold ledP;rw [if_neg (by omega),if_pos a],he]
theorem alive_val (W:Nat→Nat):∀(l:List PtM) (e:Bool) (U:List (Int×Int)) (c:Int→Int),(∀n,0≤c n)→(∀n,gW n U=c n+useL n l)→Fwd l →
  (e=false→∀A,valL W (aliveR e U l) A=valL W l A)∧(∀n,HasN n l→0<c n→∀A,valL W (aft n (aliveR e U l)) A=valL W (aft n l) A)
 | [],_,_,_,_,_,_=>⟨fun _ _=>rfl,fun n h=>absurd h (has_nil n)⟩
 | p::t,e,U,c,hc,hU,h=>by
  obtain ⟨f1,f2,f3⟩:=h
  unfold aliveR
  by_cases h1:p.kd=1∧gW p.tQ U=0
  ·rw [if_pos h1]
   have hz:=hU p.tQ
   have h0:=hc p.tQ
   have hu:=useL_nn p.tQ (p::t)
   have hnw:∀n,¬WayTo p n:=fun n a=>by rcases a with ⟨a,_⟩|⟨a,_⟩<;>omega
   have ih:=alive_val W t e U c hc (fun n=>by rw [hU n,useL_cons,useN_no (hnw n)];omega) f1
   refine ⟨fun he A=>by rw [val_here h1.1];exact ih.1 he A,fun n a b A=>?_⟩
   have hne:p.tQ≠n:=fun e=>by subst e;omega
   rw [aft_ne hne]
   rcases has_cons.1 a with ⟨_,a⟩|a
   ·exact absurd a hne
   ·exact ih.2 n a b A
  ·rw [if_neg h1]
   by_cases h2:e=true∧p.kd≠1
   ·rw [if_pos h2]
    have ih:=alive_val W t e (cntW p (-1) U) c hc (fun n=>by rw [gW_cnt,hU n,useL_cons];omega) f1
    refine ⟨fun he=>(by rw [h2.1] at he;cases he),fun n a b A=>?_⟩
    rw [aft_no h2.2]
    rcases has_cons.1 a with ⟨a,_⟩|a
    ·exact absurd a h2.2
    ·exact ih.2 n a b A
   ·rw [if_neg h2]
    have ih:=alive_val W t (endsB p) U (fun n=>c n+useN n p) (fun n=>by have:=hc n;have:=useN_nn n p;show 0≤c n+useN n p;omega) (fun n=>by rw [hU n,useL_cons];show _=c n+useN n p+useL n t;omega) f1
    have hway:∀n,WayTo p n→∀A,valL W (aft n (aliveR (endsB p) U t)) A=valL W (aft n t) A:=fun n a A=>ih.2 n (f3 n a) (by have:=useN_way a;have:=hc n;show 0<c n+useN n p;omega) A
    have ha:∀A,valL W (p::aliveR (endsB p) U t) A=valL W (p::t) A:=fun A=>by
     rw [valL_cons,valL_cons]
     by_cases k4:p.kd=4
     ·rw [if_pos k4,if_pos k4];exact hway _ (Or.inr ⟨k4,rfl⟩) A
     rw [if_neg k4,if_neg k4]
     by_cases k3:p.kd=3
     ·rw [if_pos k3,if_pos k3]
      split
      ·exact hway _ (Or.inl ⟨k3,Or.inl rfl⟩) A
      ·exact hway _ (Or.inl ⟨k3,Or.inr rfl⟩) A
     rw [if_neg k3,if_neg k3]
     by_cases k2:p.kd=2
     ·rw [if_pos k2,if_pos k2]
      by_cases k6:p.i.c%8=6
      ·rw [if_pos k6,if_pos k6]
      ·rw [if_neg k6,if_neg k6]
       have he:endsB p=false:=decide_eq_false (fun a=>by rcases a with a|a;exact k4 a;exact k6 a.2)
       rw [ih.1 he,ih.1 he]
     ·rw [if_neg k2,if_neg k2]
      have he:endsB p=false:=decide_eq_false (fun a=>by rcases a with a|a;exact k4 a;exact k2 a.1)
      exact ih.1 he A
    refine ⟨fun _=>ha,fun n a b A=>?_⟩
    by_cases e1:p.kd=1∧p.tQ=n
    ·rw [aft_here e1.1 e1.2,aft_here e1.1 e1.2];exact ha A
    ·rw [aft_other e1,aft_other e1]
     rcases has_cons.1 a with a|a
     ·exact absurd a e1
     ·exact ih.2 n a (by have:=useN_nn n p;show 0<c n+useN n p;omega) A
theorem round_val (W:Nat→Nat){l:List PtM}(h:Fwd l)(A:Nat):valL W (roundF l) A=valL W l A:=by
 unfold roundF
 rw [(leav_same W _).all,aliveF_rec,leadF_rec,(alive_val W _ false _ (fun _=>0) (fun _=>Int.le_refl _) (fun n=>by rw [gW_uses];show _=(0:Int)+_;omega) (lead_inv h).fwd).1 rfl,(lead_val W h).same.all]
theorem tidy_val (W:Nat→Nat):∀(k:Nat) (x:List PtM),x.length<k→Fwd x→∀A,valL W (tidyF x) A=valL W x A
 | 0,_,h,_,_=>by omega
 | k+1,x,h,hf,A=>by
  by_cases e:(roundF x).length=x.length
  ·rw [tidyF_end e];exact round_val W hf A
  ·rw [tidyF_on e,tidy_val W k (roundF x) (by have:=roundF_len x;omega) (round_fwd hf)]
   exact round_val W hf A
end Go.Proofs.YtcnebdjhhfnmoaaGreatDoor.Ju
namespace Go.Proofs.YtcnebdjhhfnmoaaGreatDoor.Ju
/-! It may be loaded. -/
def AllA:List Ins→Prop
 | []=>True
 | i::l=>alone i l.length=0∧AllA l
theorem all_at:∀{l:List Ins},AllA l→∀(a:Nat)(i:Ins),l[a]?=some i→alone i (l.length-a-1)=0
 | j::l,h,0,i,hi=>by
  simp only [List.getElem?_cons_zero,Option.some.injEq] at hi
  subst hi
  rw [List.length_cons,show l.length+1-0-1=l.length from by omega]
  exact h.1
 | j::l,h,a+1,i,hi=>by
  rw [List.getElem?_cons_succ] at hi
  rw [List.length_cons,show l.length+1-(a+1)-1=l.length-a-1 from by omega]
  exact all_at h.2 a i hi
theorem alone_skip {k n:Nat}(h:k<n):alone (skipI k) n=0:=by
 have e:jumpB (skipI k) n=true:=by
  show (false || ([k].all fun d=>decide (d<n)))=true
  simp [h]
 unfold alone
 rw [e];rfl
end Go.Proofs.YtcnebdjhhfnmoaaGreatDoor.Ju
namespace Go.Proofs.YtcnebdjhhfnmoaaGreatDoor.Ju
def wtP (p:PtM):Nat:=if p.kd=3 then 3 else if p.kd=2∨p.kd=4 then 1 else 0
def wtL:List PtM→Nat
 | []=>0
 | p::t=>wtP p+wtL t
structure Fin1 (p:PtM):Prop where
 smp:Smp p
 kd:p.kd=1∨p.kd=2∨p.kd=3∨p.kd=4
 rg:p.kd=2→rangeB p.i=true
def LastR:List PtM→Prop
 | []=>False
 | p::t=>(t=[]∧p.kd=2∧p.i.c%8=6)∨LastR t
structure Cod (l:List PtM)(r:Nat×CdM):Prop where
 ok:r.1=0
 nm:∀n,HasN n l→∃k,lk n r.2.bh=some k
 no:∀n,¬HasN n l→lk n r.2.bh=none
 at_:∀n k,lk n r.2.bh=some k→1≤k∧k≤r.2.ins.length
 len:r.2.ins.length≤wtL l
 pos:1≤r.2.ins.length
 all:AllA r.2.ins
 smp:∀i∈r.2.ins,i.c=32∨i.c=84∨i.c=6∨i.c=5∨i.c=21∨i.c=37∨i.c=53∨i.c=69
 ends:∀i,r.2.ins[r.2.ins.length-1]?=some i→i.c%8=6
theorem last_app {x y:List Ins}(hy:1≤y.length)(h:∀i,y[y.length-1]?=some i→i.c%8=6):∀i,(x++y)[(x++y).length-1]?=some i→i.c%8=6:=fun i hi=>by
 rw [List.length_append,List.getElem?_append_right (by omega),show x.length+y.length-1-x.length=y.length-1 from by omega] at hi
 exact h i hi
theorem alone_if4 {c t f k n:Nat}(hc:c=21∨c=37∨c=53∨c=69)(ht:t<n)(hf:f<n):alone ⟨c,t,f,k⟩ n=0:=by
 have e:jumpB ⟨c,t,f,k⟩ n=true:=by
  rcases hc with rfl|rfl|rfl|rfl<;>simp [jumpB,rel,ht,hf]
 unfold alone
 rw [e]
 rcases hc with rfl|rfl|rfl|rfl<;>rfl
theorem alone_plain {i:Ins}{n:Nat}(hc:i.c=32∨i.c=84∨i.c=6)(hr:rangeB i=true)(_:0<n∨i.c=6):alone i n=0:=by
 have e:jumpB i n=true:=by
  unfold jumpB
  rcases hc with h|h|h<;>rw [h]<;>rfl
 have k:knownB i.c=true:=by rcases hc with h|h|h<;>rw [h]<;>rfl
 unfold alone
 rw [e,hr,k];rfl
theorem all_app:∀{x y:List Ins},AllA y→(∀(a:Nat)(i:Ins),x[a]?=some i→alone i (x.length-a-1+y.length)=0)→AllA (x++y)
 | [],_,h,_=>h
 | i::x,y,h,hx=>by
  refine ⟨?_,all_app h fun a j hj=>?_⟩
  ·have:=hx 0 i rfl
   show alone i (x++y).length=0
   rw [List.length_append]
   rw [List.length_cons] at this
   rw [show x.length+y.length=x.length+1-0-1+y.length from by omega];exact this
  ·have:=hx (a+1) j (by rw [List.getElem?_cons_succ];exact hj)
   rw [List.length_cons] at this
   rw [show x.length-a-1+y.length=x.length+1-(a+1)-1+y.length from by omega];exact this
theorem step_of {p:PtM}{r:Nat×CdM}(h0:r.1=0)(h2:(layF p r.2).2.ins.length≤4096):stepF p r=layF p r.2:=by
 rw [show r=(0,r.2) from Prod.ext h0 rfl]
 exact step_eq h2
theorem Cod.ahead {p:PtM}{t:List PtM}{r:Nat×CdM}(h:Cod t r)(x:List Ins)(hk:p.kd≠1)(hx:x.length≤wtP p)(hw:wtL (p::t)≤4096)(hl:layF p r.2=(0,⟨x++r.2.ins,r.2.bh⟩))
  (ha:∀(a:Nat) (i:Ins),x[a]?=some i→alone i (x.length-a-1+r.2.ins.length)=0) (hs:∀i∈x,i.c=32∨i.c=84∨i.c=6∨i.c=5∨i.c=21∨i.c=37∨i.c=53∨i.c=69):Cod (p::t) (stepF p r):=by
 have hlen:=h.len
 have hwt:wtL (p::t)=wtP p+wtL t:=rfl
 rw [step_of h.ok (by rw [hl];simp only [List.length_append];omega),hl]
 have hh:∀n,HasN n (p::t)↔HasN n t:=fun n=>by
  rw [has_cons]
  exact ⟨fun a=>by rcases a with ⟨a,_⟩|a;exact absurd a hk;exact a,Or.inr⟩
 exact ⟨rfl,fun n a=>h.nm n ((hh n).1 a),fun n a=>h.no n (fun b=>a ((hh n).2 b)),fun n k a=>by have:=h.at_ n k a;simp only [List.length_append];omega,
  by simp only [List.length_append];omega,by have:=h.pos;simp only [List.length_append];omega,all_app h.all ha,
  fun i hi=>by rcases List.mem_append.1 hi with b|b;exact hs i b;exact h.smp i b,last_app h.pos h.ends⟩
theorem one_at {i:Ins}{Q:Nat→Ins→Prop}(h:Q 0 i):∀(a:Nat) (j:Ins),[i][a]?=some j→Q a j:=fun a j hj=>by
 match a,hj with
 | 0,hj=>simp at hj;subst hj;exact h
 | a+1,hj=>simp at hj
theorem make_cod:∀l:List PtM,Fwd l→(∀p∈l,Fin1 p)→LastR l→wtL l≤4096→Cod l (makeF l)
 | [],_,_,h,_=>h.elim
 | p::t,hf,hs,hl,hw=>by
  have hwt:wtL (p::t)=wtP p+wtL t:=rfl
  have hp:=hs p List.mem_cons_self
  rcases hl with ⟨rfl,k2,k6⟩|hl
  ·have e:layF p ⟨[],[]⟩=(0,⟨[p.i],[]⟩):=by unfold layF;rw [if_neg (by omega),if_pos k2,if_neg (by omega)]
   have em:makeF [p]=(0,⟨[p.i],[]⟩):=by
    rw [makeF_cons,show makeF []=(0,⟨[],[]⟩) from rfl,step_eq (by rw [e];simp),e]
   rw [em]
   have hc:=hp.smp.1 k2
   have hh:∀n,¬HasN n [p]:=fun n a=>by rcases has_cons.1 a with ⟨a,_⟩|a;omega;exact has_nil n a
   have hw1:wtP p=1:=by unfold wtP;rw [if_neg (by omega),if_pos (Or.inl k2)]
   refine ⟨rfl,fun n a=>absurd a (hh n),fun n _=>rfl,fun n k a=>by simp [lk] at a,by rw [hwt,hw1];simp,by simp,⟨alone_plain hc (hp.rg k2) (Or.inr (by omega)),trivial⟩,fun i hi=>?_,fun i hi=>?_⟩
   ·rw [List.mem_singleton] at hi;subst hi;omega
   ·simp at hi;subst hi;exact k6
  ·have ih:=make_cod t hf.1 (fun q hq=>hs q (List.mem_cons_of_mem _ hq)) hl (by omega)
   rw [makeF_cons]
   obtain ⟨r,hr⟩:∃r,r=makeF t:=⟨_,rfl⟩
   rw [←hr] at ih ⊢
   have hpos:=ih.pos
   have hlen:=ih.len
   by_cases k1:p.kd=1
   ·have hno:=hf.2.1 k1
    have e:layF p r.2=(0,⟨r.2.ins,(p.tQ,r.2.ins.length)::r.2.bh⟩):=by unfold layF;rw [if_pos k1,ih.no _ hno]
    rw [step_of ih.ok (by rw [e];simp only;omega),e]
    refine ⟨rfl,fun n a=>?_,fun n a=>?_,fun n k a=>?_,by simp only;omega,ih.pos,ih.all,ih.smp,ih.ends⟩
    ·simp only [lk_cons]
     by_cases en:p.tQ=n
     ·rw [if_pos en];exact ⟨_,rfl⟩
     ·rw [if_neg en]
      rcases has_cons.1 a with ⟨_,a⟩|a
      ·exact absurd a en
      ·exact ih.nm n a
    ·simp only [lk_cons]
     rw [if_neg (fun en=>a (has_cons.2 (Or.inl ⟨k1,en⟩)))]
     exact ih.no n (fun b=>a (has_cons.2 (Or.inr b)))
    ·simp only [lk_cons] at a
     split at a
     ·cases a;exact ⟨hpos,Nat.le_refl _⟩
     ·exact ih.at_ n k a
   by_cases k2:p.kd=2
   ·have hc:=hp.smp.1 k2
    have e:layF p r.2=(0,⟨[p.i]++r.2.ins,r.2.bh⟩):=by unfold layF;rw [if_neg k1,if_pos k2,if_neg (by omega)];rfl
    refine ih.ahead [p.i] k1 (by unfold wtP;rw [if_neg (by omega),if_pos (Or.inl k2)];simp) hw e (one_at (Q:=fun a i=>alone i ([p.i].length-a-1+r.2.ins.length)=0) (alone_plain hc (hp.rg k2) (Or.inl (by omega)))) (fun i hi=>by rw [List.mem_singleton] at hi;subst hi;omega)
   by_cases k4:p.kd=4
   ·obtain ⟨b,hb⟩:=ih.nm p.tQ (hf.2.2 p.tQ (Or.inr ⟨k4,rfl⟩))
    obtain ⟨b1,b2⟩:=ih.at_ _ _ hb
    have e:layF p r.2=(0,⟨[skipI (r.2.ins.length-b)]++r.2.ins,r.2.bh⟩):=by unfold layF;rw [if_neg k1,if_neg k2,if_neg (by omega),if_pos k4,hb];rfl
    refine ih.ahead _ k1 (by unfold wtP;rw [if_neg (by omega),if_pos (Or.inr k4)];simp) hw e (one_at (Q:=fun a i=>alone i ([skipI (r.2.ins.length-b)].length-a-1+r.2.ins.length)=0) (alone_skip (by simp;omega))) (fun i hi=>by rw [List.mem_singleton] at hi;subst hi;exact Or.inr (Or.inr (Or.inr (Or.inl rfl))))
   have k3:p.kd=3:=by have:=hp.kd;omega
   have hc:=hp.smp.2 k3
   obtain ⟨bt,hbt⟩:=ih.nm p.tQ (hf.2.2 p.tQ (Or.inl ⟨k3,Or.inl rfl⟩))
   obtain ⟨bf,hbf⟩:=ih.nm p.el (hf.2.2 p.el (Or.inl ⟨k3,Or.inr rfl⟩))
   obtain ⟨t1,t2⟩:=ih.at_ _ _ hbt
   obtain ⟨f1,f2⟩:=ih.at_ _ _ hbf
   have e:layF p r.2=(0,⟨cmpF r.2.ins p.i bt bf,r.2.bh⟩):=by unfold layF;rw [if_neg k1,if_neg k2,if_pos k3,if_neg (by omega),hbt,hbf]
   obtain ⟨L,hL⟩:∃L,L=r.2.ins:=⟨_,rfl⟩
   have hw3:wtP p=3:=by unfold wtP;rw [if_pos k3]
   have h5:∀k,(skipI k).c=32∨(skipI k).c=84∨(skipI k).c=6∨(skipI k).c=5∨(skipI k).c=21∨(skipI k).c=37∨(skipI k).c=53∨(skipI k).c=69:=fun k=>Or.inr (Or.inr (Or.inr (Or.inl rfl)))
   have hi4:∀a b,(⟨p.i.c,a,b,p.i.k⟩:Ins).c=32∨(⟨p.i.c,a,b,p.i.k⟩:Ins).c=84∨(⟨p.i.c,a,b,p.i.k⟩:Ins).c=6∨(⟨p.i.c,a,b,p.i.k⟩:Ins).c=5∨(⟨p.i.c,a,b,p.i.k⟩:Ins).c=21∨(⟨p.i.c,a,b,p.i.k⟩:Ins).c=37∨(⟨p.i.c,a,b,p.i.k⟩:Ins).c=53∨(⟨p.i.c,a,b,p.i.k⟩:Ins).c=69:=fun a b=>by simp only;omega
   have e1:reachF L bf=if L.length-bf≤253 then (L.length-bf,L) else (0,skipI (L.length-bf)::L):=rfl
   rw [←hL] at e t2 f2 hpos hlen
   by_cases g1:L.length-bf≤253
   ·rw [if_pos g1] at e1
    have e2:reachF L bt=if L.length-bt≤253 then (L.length-bt,L) else (0,skipI (L.length-bt)::L):=rfl
    by_cases g2:L.length-bt≤253
    ·rw [if_pos g2] at e2
     have ec:cmpF L p.i bt bf=[⟨p.i.c,L.length-bt,L.length-bf,p.i.k⟩]++L:=by unfold cmpF;rw [e1];simp only;rw [e2];simp
     rw [ec,hL] at e
     refine ih.ahead _ k1 (by rw [hw3];simp) hw e (fun a i hi=>?_) (fun i hi=>?_)
     ·match a,hi with
      | 0,hi=>simp at hi;subst hi;exact alone_if4 hc (by simp [←hL]<;>omega) (by simp [←hL]<;>omega)
      | a+1,hi=>simp at hi
     ·rw [List.mem_singleton] at hi;subst hi;exact hi4 _ _
    ·rw [if_neg g2] at e2
     have ec:cmpF L p.i bt bf=[⟨p.i.c,0,L.length-bf+1,p.i.k⟩,skipI (L.length-bt)]++L:=by unfold cmpF;rw [e1];simp only;rw [e2];simp
     rw [ec,hL] at e
     refine ih.ahead _ k1 (by rw [hw3];simp) hw e (fun a i hi=>?_) (fun i hi=>?_)
     ·match a,hi with
      | 0,hi=>simp at hi;subst hi;exact alone_if4 hc (by simp [←hL]<;>omega) (by simp [←hL]<;>omega)
      | 1,hi=>simp at hi;subst hi;exact alone_skip (by simp [←hL]<;>omega)
      | a+2,hi=>simp at hi
     ·rcases List.mem_cons.1 hi with rfl|hi
      ·exact hi4 _ _
      ·rw [List.mem_singleton] at hi;subst hi;exact h5 _
   ·rw [if_neg g1] at e1
    have e2:reachF (skipI (L.length-bf)::L) bt=if L.length+1-bt≤253 then (L.length+1-bt,skipI (L.length-bf)::L) else (0,skipI (L.length+1-bt)::skipI (L.length-bf)::L):=rfl
    by_cases g2:L.length+1-bt≤253
    ·rw [if_pos g2] at e2
     have ec:cmpF L p.i bt bf=[⟨p.i.c,L.length+1-bt,0,p.i.k⟩,skipI (L.length-bf)]++L:=by unfold cmpF;rw [e1];simp only;rw [e2];simp
     rw [ec,hL] at e
     refine ih.ahead _ k1 (by rw [hw3];simp) hw e (fun a i hi=>?_) (fun i hi=>?_)
     ·match a,hi with
      | 0,hi=>simp at hi;subst hi;exact alone_if4 hc (by simp [←hL]<;>omega) (by simp [←hL]<;>omega)
      | 1,hi=>simp at hi;subst hi;exact alone_skip (by simp [←hL]<;>omega)
      | a+2,hi=>simp at hi
     ·rcases List.mem_cons.1 hi with rfl|hi
      ·exact hi4 _ _
      ·rw [List.mem_singleton] at hi;subst hi;exact h5 _
    ·rw [if_neg g2] at e2
     have ec:cmpF L p.i bt bf=[⟨p.i.c,0,1,p.i.k⟩,skipI (L.length+1-bt),skipI (L.length-bf)]++L:=by unfold cmpF;rw [e1];simp only;rw [e2];simp
     rw [ec,hL] at e
     refine ih.ahead _ k1 (by rw [hw3];simp) hw e (fun a i hi=>?_) (fun i hi=>?_)
     ·match a,hi with
      | 0,hi=>simp at hi;subst hi;exact alone_if4 hc (by simp [←hL]<;>omega) (by simp [←hL]<;>omega)
      | 1,hi=>simp at hi;subst hi;exact alone_skip (by simp [←hL]<;>omega)
      | 2,hi=>simp at hi;subst hi;exact alone_skip (by simp [←hL]<;>omega)
      | a+3,hi=>simp at hi
     ·rcases List.mem_cons.1 hi with rfl|hi
      ·exact hi4 _ _
      ·rcases List.mem_cons.1 hi with rfl|hi
       ·exact h5 _
       ·rw [List.mem_singleton] at hi;subst hi;exact h5 _
end Go.Proofs.YtcnebdjhhfnmoaaGreatDoor.Ju
