/- A plan in memory: a case more; the plan as lists. -/
import Derived.Test.YtcnebdjhhfnmoaaGreatDoorL23
import Derived.Test.YtcnebdjhhfnmoaaGreatDoorL14
import Derived.Test.YtcnebdjhhfnmoaaGreatDoorL22
import Derived.Test.YtcnebdjhhfnmoaaGreatDoorL13
import Derived.Test.YtcnebdjhhfnmoaaGreatDoorL10
import Derived.Test.YtcnebdjhhfnmoaaGreatDoorL05
import Derived.Test.YtcnebdjhhfnmoaaGreatDoorL09
import Derived.Test.YtcnebdjhhfnmoaaGreatDoorL01
set_option maxHeartbeats 32000000
set_option maxRecDepth 100000
namespace Go.Proofs.YtcnebdjhhfnmoaaGreatDoor.Ir
open Go.RowKit Go.WideElems
theorem infoCa:(Tryz.prog.info? 166).map (fun i=>(i.zero,i.size,i.bytes))=some (some (.agg #[.int .u32 0,.slice none 0 0]),2,32):=by kernel_rfl
structure CaM where
 num:Nat
 brs:List BrM
def CaV.m (c:CaV):CaM:=⟨c.num,c.brs.map BrV.m⟩
def stF:Option (List CaM×Nat×List BrM)→RuleM→Option (List CaM×Nat×List BrM)
 | none,r=>some ([],r.num,addF [] r)
 | some (cs,num,lb),r=>if r.num=num then some (cs,num,addF lb r) else some (cs++[⟨num,lb⟩],r.num,addF [] r)
def stE:Option (List CaM×Nat×List BrM)→List CaM
 | none=>[]
 | some (cs,num,lb)=>cs++[⟨num,lb⟩]
def ofF (l:List RuleM):List CaM:=stE (l.foldl stF none)
structure PlanR (w:World)(A:Option Addr)(cs:List CaV):Prop where
 row:TRd w 166 2 cs.length A (cs.flatMap CaV.cells)
 brs:∀c∈cs,TRd w 209 2 c.brs.length c.A (c.brs.flatMap BrV.cells)
 con:∀c∈cs,∀b∈c.brs,Con w b
structure P0 (w0 wr:World)(pb d:Nat):Prop where
 bel:Below w0.heap.size w0 wr
 pb0:w0.heap.size≤pb
 box:Bk wr pb 71 [.slice none 0 0,.int .u32 d]
theorem own_some {w:World}{B:Nat}{e:TypeId}{z n:Nat}{v:Value}{xs:List Value}(h:w.ownsRow B e z v (n+1) xs):∃g cap,v=.slice (some ⟨g,0,none⟩) (n+1) cap∧B≤g:=by
 obtain ⟨_,⟨_,h3⟩|⟨g,cap,cur,h2,h3,_⟩⟩:=h
 ·omega
 ·exact ⟨g,cap,h2,h3⟩
section
variable {w0 wr w':World} {cs:List CaV} {num:Nat} {lb:List BrV} {g cap:Nat} {vB:Value} {Bb pb d:Nat}
theorem P0.kept (h:P0 w0 wr pb d)(hb:Below wr.heap.size wr w'):P0 w0 w' pb d:=⟨h.bel.trans (hb.mono h.bel.size),h.pb0,h.box.kept hb⟩
theorem P0.first (h:P0 w0 wr pb d){x g' cap':Nat}(hr:w'.ownsRow w0.heap.size 166 2 (.slice (some ⟨g',0,none⟩) 1 cap') 1 [.int .u32 x,.slice none 0 0])(hg:wr.grownBy w' none) :
  PS w0 (w'.setCell ⟨pb,0,none⟩ (.slice (some ⟨g',0,none⟩) 1 cap')) [] x [] g' cap' (.slice none 0 0) w'.heap.size pb d:=by
 have hb:Below wr.heap.size wr w':=⟨hg.os,hg.tape,hg.output,hg.size,fun k hk=>hg.block k hk (by simp)⟩
 have hbx:=h.box.kept hb
 have hs:=only_set w' pb 0 (.slice (some ⟨g',0,none⟩) 1 cap')
 have htg:TyB w' g' 166:=by obtain ⟨_,_,_,_,_,h1,_⟩:=own_typed hr;exact h1 g' rfl
 refine ⟨((h.bel.trans (hb.mono h.bel.size))).setCell h.pb0 _,h.pb0,hbx.set 0 _,own_keep hr hs (fun b hb=>by cases hb;exact htg.ne hbx.tyb (by decide)),World.ownsRow_nil _ _ _ _,⟨Nat.le_trans h.bel.size (Nat.le_trans hg.size (Nat.le_refl _)),hs.size⟩,by simp,by simp,by simp⟩
theorem PS.newCase (h:PS w0 wr cs num lb g cap vB Bb pb d){Ab:Option Addr}{cb:Nat}(hv:vB=.slice Ab lb.length cb){x g' cap':Nat}(hr:w'.ownsRow w0.heap.size 166 2 (.slice (some ⟨g',0,none⟩) (cs.length+1+1) cap') (cs.length+1+1) (cs.flatMap CaV.cells++[.int .u32 num,vB]++[.int .u32 x,.slice none 0 0]))(hg:wr.grownBy w' (some g)) :
  PS w0 (w'.setCell ⟨pb,0,none⟩ (.slice (some ⟨g',0,none⟩) (cs.length+1+1) cap')) (cs++[⟨num,lb,Ab,cb⟩]) x [] g' cap' (.slice none 0 0) w'.heap.size pb d:=by
 subst hv
 have htg:TyB wr g 166:=by obtain ⟨_,_,_,_,_,h1,_⟩:=own_typed h.row;exact h1 g rfl
 have htg':TyB w' g' 166:=by obtain ⟨_,_,_,_,_,h1,_⟩:=own_typed hr;exact h1 g' rfl
 have hg0:=own_ge h.row g rfl
 have hbx:Bk w' pb 71 _:=h.box.grown hg (fun e=>(h.box.tyb.ne htg (by decide)) (Option.some.inj e))
 have hs:=only_set w' pb 0 (.slice (some ⟨g',0,none⟩) (cs.length+1+1) cap')
 have hBb:=h.hb.2
 have hT:∀{T:TypeId} {z n:Nat} {A:Option Addr} {xs:List Value},TRd wr T z n A xs→T≠166→T≠71→TRd (w'.setCell ⟨pb,0,none⟩ (.slice (some ⟨g',0,none⟩) (cs.length+1+1) cap')) T z n A xs:=fun ht n1 n2=>by
  have h1:=ht.grown hg (ht.off htg n1)
  exact h1.grown hs (h1.off hbx.tyb n2)
 refine ⟨?_,h.pb0,?_,?_,World.ownsRow_nil _ _ _ _,⟨Nat.le_trans h.hb.1 (Nat.le_trans hBb hg.size),hs.size⟩,fun c hc=>?_,fun c hc b hb=>?_,by simp⟩
 ·exact (h.bel.trans (bel_grown hg hg0 h.bel.size)).setCell h.pb0 _
 ·rw [List.length_append];exact hbx.set 0 _
 ·rw [List.length_append,List.flatMap_append]
  have h1:=own_keep hr hs (fun b hb=>by cases hb;exact htg'.ne hbx.tyb (by decide))
  simpa [CaV.cells] using h1
 ·rcases List.mem_append.1 hc with hc|hc
  ·obtain ⟨o1,o2⟩:=h.old c hc
   exact ⟨hT o1 (by decide) (by decide),o2.imp id fun ⟨a,e,hl⟩=>⟨a,e,by have:=hg.size;omega⟩⟩
  ·rw [List.mem_singleton.1 hc]
   obtain ⟨A1,c1,h1,_,h2,_⟩:=own_typed h.brs
   cases h1
   refine ⟨hT h2 (by decide) (by decide),?_⟩
   rcases h2.ty with e|⟨a,e,ht⟩
   ·exact Or.inl e
   ·exact Or.inr ⟨a,e,Nat.lt_of_lt_of_le ht.lt hg.size⟩
 ·rcases List.mem_append.1 hc with hc|hc
  ·exact hT (h.con c hc b hb) (by decide) (by decide)
  ·rw [List.mem_singleton.1 hc] at hb
   exact hT (h.conl b hb) (by decide) (by decide)
theorem PS.plan (h:PS w0 wr cs num lb g cap vB Bb pb d):∃cs',cs'.map CaV.m=cs.map CaV.m++[⟨num,lb.map BrV.m⟩]∧cs'.length=cs.length+1∧PlanR wr (some ⟨g,0,none⟩) cs':=by
 obtain ⟨Ab,cb,hv,_,h2,_⟩:=own_typed h.brs
 refine ⟨cs++[⟨num,lb,Ab,cb⟩],by rw [List.map_append];rfl,by simp,?_,fun c hc=>?_,fun c hc b hb=>?_⟩
 ·obtain ⟨A1,c1,h1,_,h3,_⟩:=own_typed h.row
  cases h1
  rw [hv] at h3
  have e:(cs++[(⟨num,lb,Ab,cb⟩:CaV)]).flatMap CaV.cells=cs.flatMap CaV.cells++[.int .u32 num,.slice Ab lb.length cb]:=by rw [List.flatMap_append];simp [CaV.cells]
  rw [e,List.length_append];exact h3
 ·rcases List.mem_append.1 hc with hc|hc
  ·exact (h.old c hc).1
  ·rw [List.mem_singleton.1 hc];exact h2
 ·rcases List.mem_append.1 hc with hc|hc
  ·exact h.con c hc b hb
  ·rw [List.mem_singleton.1 hc] at hb;exact h.conl b hb
end
end Go.Proofs.YtcnebdjhhfnmoaaGreatDoor.Ir
namespace Go.Proofs.YtcnebdjhhfnmoaaGreatDoor.Lo
open Go.Proofs.YtcnebdjhhfnmoaaGreatDoor.Ju Go.Proofs.YtcnebdjhhfnmoaaGreatDoor.Ir Go.Proofs.YtcnebdjhhfnmoaaGreatDoor.Me
theorem lay_zero {p:PtM}{t:List PtM}{r:Nat×CdM}(ih:Cod t r)(hf:Fwd (p::t))(hp:Fin1 p):(layF p r.2).1=0:=by
 unfold layF
 by_cases k1:p.kd=1
 ·rw [if_pos k1,ih.no _ (hf.2.1 k1)]
 rw [if_neg k1]
 by_cases k2:p.kd=2
 ·have hc:=hp.smp.1 k2
  rw [if_pos k2,if_neg (by omega)]
 rw [if_neg k2]
 by_cases k3:p.kd=3
 ·have hc:=hp.smp.2 k3
  obtain ⟨bt,hbt⟩:=ih.nm p.tQ (hf.2.2 p.tQ (Or.inl ⟨k3,Or.inl rfl⟩))
  obtain ⟨bf,hbf⟩:=ih.nm p.el (hf.2.2 p.el (Or.inl ⟨k3,Or.inr rfl⟩))
  rw [if_pos k3,if_neg (by omega),hbt,hbf]
 rw [if_neg k3]
 have k4:p.kd=4:=by have:=hp.kd;omega
 obtain ⟨b,hb⟩:=ih.nm p.tQ (hf.2.2 p.tQ (Or.inr ⟨k4,rfl⟩))
 rw [if_pos k4,hb]
theorem ahead2 {p:PtM}{t:List PtM}{r:Nat×CdM}(h:Cod t r)(x:List Ins)(hk:p.kd≠1)(hx:x.length≤wtP p)(hw:(x++r.2.ins).length≤4096)(hl:layF p r.2=(0,⟨x++r.2.ins,r.2.bh⟩))
  (ha:∀(a:Nat) (i:Ins),x[a]?=some i→alone i (x.length-a-1+r.2.ins.length)=0) (hs:∀i∈x,i.c=32∨i.c=84∨i.c=6∨i.c=5∨i.c=21∨i.c=37∨i.c=53∨i.c=69):Cod (p::t) (stepF p r):=by
 have hlen:=h.len
 have hwt:wtL (p::t)=wtP p+wtL t:=rfl
 rw [step_of h.ok (by rw [hl];exact hw),hl]
 rw [List.length_append] at hw
 have hh:∀n,HasN n (p::t)↔HasN n t:=fun n=>by
  rw [has_cons]
  exact ⟨fun a=>by rcases a with ⟨a,_⟩|a;exact absurd a hk;exact a,Or.inr⟩
 exact ⟨rfl,fun n a=>h.nm n ((hh n).1 a),fun n a=>h.no n (fun b=>a ((hh n).2 b)),fun n k a=>by have:=h.at_ n k a;simp only [List.length_append];omega,
  by simp only [List.length_append];omega,by have:=h.pos;simp only [List.length_append];omega,all_app h.all ha,
  fun i hi=>by rcases List.mem_append.1 hi with b|b;exact hs i b;exact h.smp i b,last_app h.pos h.ends⟩
theorem cod_step {p:PtM}{t:List PtM}{r:Nat×CdM}(ih:Cod t r)(hf:Fwd (p::t))(hp:Fin1 p)(h4:(layF p r.2).2.ins.length≤4096):Cod (p::t) (stepF p r):=by
 have hw:∀{x:List Ins} {c:List (Int×Nat)},layF p r.2=(0,⟨x,c⟩)→x.length≤4096:=fun e=>by rw [e] at h4;exact h4
 have hwt:wtL (p::t)=wtP p+wtL t:=rfl
 have hpos:=ih.pos
 have hlen:=ih.len
 by_cases k1:p.kd=1
 ·have hno:=hf.2.1 k1
  have e:layF p r.2=(0,⟨r.2.ins,(p.tQ,r.2.ins.length)::r.2.bh⟩):=by unfold layF;rw [if_pos k1,ih.no _ hno]
  rw [step_of ih.ok (by rw [e];exact hw e),e]
  refine ⟨rfl,fun n a=>?_,fun n a=>?_,fun n k a=>?_,by rw [hwt];simp only;omega,ih.pos,ih.all,ih.smp,ih.ends⟩
  ·simp only [lk_cons]
   by_cases en:p.tQ=n
   ·rw [if_pos en];exact ⟨_,rfl⟩
   ·rw [if_neg en]
    rcases has_cons.1 a with ⟨_,a⟩|a
    ·exact absurd a en
    ·exact ih.nm n a
  ·simp only [lk_cons]
   rw [if_neg (fun en=>a (has_cons.2 (Or.inl ⟨k1,en⟩)))]
   exact ih.no n (fun b=>a (has_cons.2 (Or.inr b)))
  ·simp only [lk_cons] at a
   split at a
   ·cases a;exact ⟨hpos,Nat.le_refl _⟩
   ·exact ih.at_ n k a
 by_cases k2:p.kd=2
 ·have hc:=hp.smp.1 k2
  have e:layF p r.2=(0,⟨[p.i]++r.2.ins,r.2.bh⟩):=by unfold layF;rw [if_neg k1,if_pos k2,if_neg (by omega)];rfl
  refine ahead2 ih [p.i] k1 (by unfold wtP;rw [if_neg (by omega),if_pos (Or.inl k2)];simp) (hw e) e (one_at (Q:=fun a i=>alone i ([p.i].length-a-1+r.2.ins.length)=0) (alone_plain hc (hp.rg k2) (Or.inl (by omega)))) (fun i hi=>by rw [List.mem_singleton] at hi;subst hi;omega)
 by_cases k4:p.kd=4
 ·obtain ⟨b,hb⟩:=ih.nm p.tQ (hf.2.2 p.tQ (Or.inr ⟨k4,rfl⟩))
  obtain ⟨b1,b2⟩:=ih.at_ _ _ hb
  have e:layF p r.2=(0,⟨[skipI (r.2.ins.length-b)]++r.2.ins,r.2.bh⟩):=by unfold layF;rw [if_neg k1,if_neg k2,if_neg (by omega),if_pos k4,hb];rfl
  refine ahead2 ih _ k1 (by unfold wtP;rw [if_neg (by omega),if_pos (Or.inr k4)];simp) (hw e) e (one_at (Q:=fun a i=>alone i ([skipI (r.2.ins.length-b)].length-a-1+r.2.ins.length)=0) (alone_skip (by simp;omega))) (fun i hi=>by rw [List.mem_singleton] at hi;subst hi;exact Or.inr (Or.inr (Or.inr (Or.inl rfl))))
 have k3:p.kd=3:=by have:=hp.kd;omega
 have hc:=hp.smp.2 k3
 obtain ⟨bt,hbt⟩:=ih.nm p.tQ (hf.2.2 p.tQ (Or.inl ⟨k3,Or.inl rfl⟩))
 obtain ⟨bf,hbf⟩:=ih.nm p.el (hf.2.2 p.el (Or.inl ⟨k3,Or.inr rfl⟩))
 obtain ⟨t1,t2⟩:=ih.at_ _ _ hbt
 obtain ⟨f1,f2⟩:=ih.at_ _ _ hbf
 have e:layF p r.2=(0,⟨cmpF r.2.ins p.i bt bf,r.2.bh⟩):=by unfold layF;rw [if_neg k1,if_neg k2,if_pos k3,if_neg (by omega),hbt,hbf]
 obtain ⟨L,hL⟩:∃L,L=r.2.ins:=⟨_,rfl⟩
 have hw3:wtP p=3:=by unfold wtP;rw [if_pos k3]
 have h5:∀k,(skipI k).c=32∨(skipI k).c=84∨(skipI k).c=6∨(skipI k).c=5∨(skipI k).c=21∨(skipI k).c=37∨(skipI k).c=53∨(skipI k).c=69:=fun k=>Or.inr (Or.inr (Or.inr (Or.inl rfl)))
 have hi4:∀a b,(⟨p.i.c,a,b,p.i.k⟩:Ins).c=32∨(⟨p.i.c,a,b,p.i.k⟩:Ins).c=84∨(⟨p.i.c,a,b,p.i.k⟩:Ins).c=6∨(⟨p.i.c,a,b,p.i.k⟩:Ins).c=5∨(⟨p.i.c,a,b,p.i.k⟩:Ins).c=21∨(⟨p.i.c,a,b,p.i.k⟩:Ins).c=37∨(⟨p.i.c,a,b,p.i.k⟩:Ins).c=53∨(⟨p.i.c,a,b,p.i.k⟩:Ins).c=69:=fun a b=>by simp only;omega
 have e1:reachF L bf=if L.length-bf≤253 then (L.length-bf,L) else (0,skipI (L.length-bf)::L):=rfl
 rw [←hL] at e t2 f2 hpos hlen
 by_cases g1:L.length-bf≤253
 ·rw [if_pos g1] at e1
  have e2:reachF L bt=if L.length-bt≤253 then (L.length-bt,L) else (0,skipI (L.length-bt)::L):=rfl
  by_cases g2:L.length-bt≤253
  ·rw [if_pos g2] at e2
   have ec:cmpF L p.i bt bf=[⟨p.i.c,L.length-bt,L.length-bf,p.i.k⟩]++L:=by unfold cmpF;rw [e1];simp only;rw [e2];simp
   rw [ec,hL] at e
   refine ahead2 ih _ k1 (by rw [hw3];simp) (hw e) e (fun a i hi=>?_) (fun i hi=>?_)
   ·match a,hi with
    | 0,hi=>simp at hi;subst hi;exact alone_if4 hc (by simp [←hL]<;>omega) (by simp [←hL]<;>omega)
    | a+1,hi=>simp at hi
   ·rw [List.mem_singleton] at hi;subst hi;exact hi4 _ _
  ·rw [if_neg g2] at e2
   have ec:cmpF L p.i bt bf=[⟨p.i.c,0,L.length-bf+1,p.i.k⟩,skipI (L.length-bt)]++L:=by unfold cmpF;rw [e1];simp only;rw [e2];simp
   rw [ec,hL] at e
   refine ahead2 ih _ k1 (by rw [hw3];simp) (hw e) e (fun a i hi=>?_) (fun i hi=>?_)
   ·match a,hi with
    | 0,hi=>simp at hi;subst hi;exact alone_if4 hc (by simp [←hL]<;>omega) (by simp [←hL]<;>omega)
    | 1,hi=>simp at hi;subst hi;exact alone_skip (by simp [←hL]<;>omega)
    | a+2,hi=>simp at hi
   ·rcases List.mem_cons.1 hi with rfl|hi
    ·exact hi4 _ _
    ·rw [List.mem_singleton] at hi;subst hi;exact h5 _
 ·rw [if_neg g1] at e1
  have e2:reachF (skipI (L.length-bf)::L) bt=if L.length+1-bt≤253 then (L.length+1-bt,skipI (L.length-bf)::L) else (0,skipI (L.length+1-bt)::skipI (L.length-bf)::L):=rfl
  by_cases g2:L.length+1-bt≤253
  ·rw [if_pos g2] at e2
   have ec:cmpF L p.i bt bf=[⟨p.i.c,L.length+1-bt,0,p.i.k⟩,skipI (L.length-bf)]++L:=by unfold cmpF;rw [e1];simp only;rw [e2];simp
   rw [ec,hL] at e
   refine ahead2 ih _ k1 (by rw [hw3];simp) (hw e) e (fun a i hi=>?_) (fun i hi=>?_)
   ·match a,hi with
    | 0,hi=>simp at hi;subst hi;exact alone_if4 hc (by simp [←hL]<;>omega) (by simp [←hL]<;>omega)
    | 1,hi=>simp at hi;subst hi;exact alone_skip (by simp [←hL]<;>omega)
    | a+2,hi=>simp at hi
   ·rcases List.mem_cons.1 hi with rfl|hi
    ·exact hi4 _ _
    ·rw [List.mem_singleton] at hi;subst hi;exact h5 _
  ·rw [if_neg g2] at e2
   have ec:cmpF L p.i bt bf=[⟨p.i.c,0,1,p.i.k⟩,skipI (L.length+1-bt),skipI (L.length-bf)]++L:=by unfold cmpF;rw [e1];simp only;rw [e2];simp
   rw [ec,hL] at e
   refine ahead2 ih _ k1 (by rw [hw3];simp) (hw e) e (fun a i hi=>?_) (fun i hi=>?_)
   ·match a,hi with
    | 0,hi=>simp at hi;subst hi;exact alone_if4 hc (by simp [←hL]<;>omega) (by simp [←hL]<;>omega)
    | 1,hi=>simp at hi;subst hi;exact alone_skip (by simp [←hL]<;>omega)
    | 2,hi=>simp at hi;subst hi;exact alone_skip (by simp [←hL]<;>omega)
    | a+3,hi=>simp at hi
   ·rcases List.mem_cons.1 hi with rfl|hi
    ·exact hi4 _ _
    ·rcases List.mem_cons.1 hi with rfl|hi
     ·exact h5 _
     ·rw [List.mem_singleton] at hi;subst hi;exact h5 _
theorem make_or:∀l:List PtM,Fwd l→(∀p∈l,Fin1 p)→LastR l→Cod l (makeF l)∨(makeF l).1=205
 | [],_,_,h=>h.elim
 | p::t,hf,hs,hl=>by
  rcases hl with ⟨rfl,k2,k6⟩|hl
  ·refine Or.inl (make_cod [p] hf hs (Or.inl ⟨rfl,k2,k6⟩) ?_)
   show wtP p+0≤4096
   unfold wtP;split
   ·omega
   ·split<;>omega
  rw [makeF_cons]
  rcases make_or t hf.1 (fun q hq=>hs q (List.mem_cons_of_mem _ hq)) hl with ih|ih
  ·have hp:=hs p List.mem_cons_self
   have h0:=lay_zero ih hf hp
   by_cases h4:(layF p (makeF t).2).2.ins.length≤4096
   ·exact Or.inl (cod_step ih hf hp h4)
   ·refine Or.inr ?_
    unfold stepF
    rw [if_neg (by rw [ih.ok];simp),if_neg (by rw [h0];simp),if_pos (by omega)]
  ·refine Or.inr ?_
   unfold stepF
   rw [if_pos (by rw [ih];decide)];exact ih
structure MadeR (l:List PtM):Prop where
 ok:(makeF l).1=0
 good:Good (makeF l).2.ins
 ins:∀i∈(makeF l).2.ins,i.c=32∨i.c=84∨i.c=6∨i.c=5∨i.c=21∨i.c=37∨i.c=53∨i.c=69
 says:∀W:Nat→Nat,(runN W (makeF l).2.ins).2=valL W l 0
theorem made_or {l:List PtM}(hf:Fwd l)(hs:∀p∈l,Fin1 p)(hl:LastR l):MadeR l∨(makeF l).1=205:=by
 rcases make_or l hf hs hl with h|h
 ·have hlen:=make_len l h.ok
  refine Or.inl ⟨h.ok,⟨h.pos,hlen,all_at h.all,h.ends,fun a i hi ht=>?_⟩,h.smp,fun W=>?_⟩
  ·have hs:=h.smp i (List.mem_of_getElem? hi)
   unfold takes at ht
   simp only [Bool.or_eq_true,beq_iff_eq] at ht
   omega
  ·rw [run_code W h.smp]
   exact (make_mean W l (fun p hp=>(hs p hp).smp) h.ok).all 0
 ·exact Or.inr h
end Go.Proofs.YtcnebdjhhfnmoaaGreatDoor.Lo
namespace Go.Proofs.YtcnebdjhhfnmoaaGreatDoor.Co
open Go.Proofs.YtcnebdjhhfnmoaaGreatDoor.Ju Go.Proofs.YtcnebdjhhfnmoaaGreatDoor.Ir Go.Proofs.YtcnebdjhhfnmoaaGreatDoor.Me Go.Proofs.YtcnebdjhhfnmoaaGreatDoor.Lo
def ldB (p:PtM):Bool:=decide (p.kd=2∧p.i.c=32)
theorem ldB_true {p:PtM}:ldB p=true↔p.kd=2∧p.i.c=32:=decide_eq_true_iff
def nxtP (last p:PtM):PtM:=if p.kd=2∨p.kd=1 then p else last
def againB (p last:PtM):Bool:=ldB p&&ldB last&&decide (p.i.k=last.i.k)
theorem again_true {p last:PtM}:againB p last=true↔(p.kd=2∧p.i.c=32)∧(last.kd=2∧last.i.c=32)∧p.i.k=last.i.k:=by
 unfold againB
 rw [Bool.and_eq_true,Bool.and_eq_true,ldB_true,ldB_true,decide_eq_true_iff,and_assoc]
def peepS:PtM→List PtM→List PtM
 | _,[]=>[]
 | last,p::t=>if againB p last=true then peepS last t else p::peepS (nxtP last p) t
theorem peep_yes {last p:PtM}(t:List PtM)(h:againB p last=true):peepS last (p::t)=peepS last t:=by conv=>lhs;unfold peepS;rw [if_pos h]
theorem peep_no {last p:PtM}(t:List PtM)(h:¬againB p last=true):peepS last (p::t)=p::peepS (nxtP last p) t:=by conv=>lhs;unfold peepS;rw [if_neg h]
theorem peep_val (W:Nat→Nat):∀(l:List PtM) (last:PtM),(∀A,(last.kd=2∧last.i.c=32→A=W last.i.k)→valL W (peepS last l) A=valL W l A)∧∀n A,valL W (aft n (peepS last l)) A=valL W (aft n l) A
 | [],_=>⟨fun _ _=>rfl,fun _ _=>rfl⟩
 | p::t,last=>by
  by_cases hb:againB p last=true
  ·rw [peep_yes t hb]
   obtain ⟨⟨k2,c32⟩,hl,ek⟩:=again_true.1 hb
   have ih:=peep_val W t last
   refine ⟨fun A hA=>?_,fun n A=>?_⟩
   ·rw [ih.1 A hA,valL_cons,if_neg (by omega),if_neg (by omega),if_pos k2,if_neg (by omega),if_pos c32,ek,←hA hl]
   ·rw [ih.2 n A,aft_no (show p.kd≠1 by omega)]
  ·rw [peep_no t hb]
   have ih:=peep_val W t (nxtP last p)
   have ha:∀A,(last.kd=2∧last.i.c=32→A=W last.i.k)→valL W (p::peepS (nxtP last p) t) A=valL W (p::t) A:=fun A hA=>by
    rw [valL_cons,valL_cons]
    by_cases k4:p.kd=4
    ·rw [if_pos k4,if_pos k4];exact ih.2 _ A
    rw [if_neg k4,if_neg k4]
    by_cases k3:p.kd=3
    ·rw [if_pos k3,if_pos k3];exact ih.2 _ A
    rw [if_neg k3,if_neg k3]
    by_cases k2:p.kd=2
    ·rw [if_pos k2,if_pos k2]
     have hn:nxtP last p=p:=if_pos (Or.inl k2)
     by_cases k6:p.i.c%8=6
     ·rw [if_pos k6,if_pos k6]
     rw [if_neg k6,if_neg k6]
     by_cases c32:p.i.c=32
     ·rw [if_pos c32,if_pos c32];exact ih.1 _ (fun _=>by rw [hn])
     ·rw [if_neg c32,if_neg c32];exact ih.1 _ (fun h=>by rw [hn] at h;exact absurd h.2 c32)
    ·rw [if_neg k2,if_neg k2]
     by_cases k1:p.kd=1
     ·have hn:nxtP last p=p:=if_pos (Or.inr k1)
      exact ih.1 A (fun h=>by rw [hn] at h;omega)
     ·have hn:nxtP last p=last:=if_neg (by omega)
      exact ih.1 A (fun h=>by rw [hn] at h ⊢;exact hA h)
   refine ⟨ha,fun n A=>?_⟩
   by_cases e:p.kd=1∧p.tQ=n
   ·rw [aft_here e.1 e.2,aft_here e.1 e.2]
    have hn:nxtP last p=p:=if_pos (Or.inr e.1)
    rw [val_here e.1,val_here e.1]
    exact ih.1 A (fun h=>by rw [hn] at h;omega)
   ·rw [aft_other e,aft_other e];exact ih.2 n A
theorem peep_mem:∀(l:List PtM)(last:PtM),∀q∈peepS last l,q∈l
 | [],_,_,h=>h
 | p::t,last,q,h=>by
  by_cases hb:againB p last=true
  ·rw [peep_yes t hb] at h
   exact List.mem_cons_of_mem _ (peep_mem t last q h)
  ·rw [peep_no t hb] at h
   rcases List.mem_cons.1 h with rfl|h
   ·exact List.mem_cons_self
   ·exact List.mem_cons_of_mem _ (peep_mem t _ q h)
theorem peep_len:∀(l:List PtM)(last:PtM),(peepS last l).length≤l.length
 | [],_=>Nat.le_refl _
 | p::t,last=>by
  by_cases hb:againB p last=true
  ·rw [peep_yes t hb];have:=peep_len t last;simp;omega
  ·rw [peep_no t hb];have:=peep_len t (nxtP last p);simp;omega
theorem peep_has (n:Int):∀(l:List PtM) (last:PtM),HasN n (peepS last l)↔HasN n l
 | [],_=>Iff.rfl
 | p::t,last=>by
  by_cases hb:againB p last=true
  ·rw [peep_yes t hb,peep_has n t last,has_cons]
   have:=(again_true.1 hb).1.1
   exact ⟨Or.inr,fun h=>h.elim (fun a=>absurd a.1 (by omega)) id⟩
  ·rw [peep_no t hb,has_cons,has_cons,peep_has n t _]
theorem peep_fwd:∀(l:List PtM)(last:PtM),Fwd l→Fwd (peepS last l)
 | [],_,_=>True.intro
 | p::t,last,h=>by
  obtain ⟨h1,h2,h3⟩:=h
  by_cases hb:againB p last=true
  ·rw [peep_yes t hb];exact peep_fwd t last h1
  ·rw [peep_no t hb]
   exact ⟨peep_fwd t _ h1,fun k=>by rw [peep_has];exact h2 k,fun n k=>(peep_has n t _).2 (h3 n k)⟩
theorem peep_last:∀(l:List PtM)(last:PtM),LastR l→LastR (peepS last l)
 | [],_,h=>h
 | p::t,last,h=>by
  by_cases hb:againB p last=true
  ·rw [peep_yes t hb]
   rcases h with ⟨_,_,h6⟩|h
   ·have:=(again_true.1 hb).1.2
    omega
   ·exact peep_last t last h
  ·rw [peep_no t hb]
   rcases h with ⟨rfl,h⟩|h
   ·exact Or.inl ⟨rfl,h⟩
   ·exact Or.inr (peep_last t _ h)
def peepT:List PtM→List PtM×PtM:=fun l=>l.foldl (fun s p=>if againB p s.2=true then s else (s.1++[p],nxtP s.2 p)) ([],zPt)
theorem peepT_snoc (l:List PtM)(p:PtM):peepT (l++[p])=if againB p (peepT l).2=true then peepT l else ((peepT l).1++[p],nxtP (peepT l).2 p):=by
 unfold peepT;rw [List.foldl_append];rfl
theorem peepT_from:∀(l a:List PtM)(last:PtM),(l.foldl (fun s p=>if againB p s.2=true then s else (s.1++[p],nxtP s.2 p)) (a,last)).1=a++peepS last l
 | [],a,last=>by simp [peepS]
 | p::t,a,last=>by
  rw [List.foldl_cons]
  by_cases hb:againB p last=true
  ·rw [if_pos hb,peep_yes t hb];exact peepT_from t a last
  ·rw [if_neg hb,peep_no t hb,peepT_from t,List.append_assoc];rfl
def peepF (l:List PtM):List PtM:=peepS zPt l
theorem peepT_fst (l:List PtM):(peepT l).1=peepF l:=by
 unfold peepT peepF
 rw [peepT_from];rfl
theorem peepF_val (W:Nat→Nat)(l:List PtM)(A:Nat):valL W (peepF l) A=valL W l A:=(peep_val W l zPt).1 A (fun h=>by have:=h.1;simp [zPt] at this)
end Go.Proofs.YtcnebdjhhfnmoaaGreatDoor.Co
namespace Go.Proofs.YtcnebdjhhfnmoaaGreatDoor.Co
open Go.RowKit Go.Maps Go.WideMaps Go.WideElems Go.ChangeMaps Go.Proofs.YtcnebdjhhfnmoaaGreatDoor.Ju
theorem loads_any (q:PtM)(w:World):Calls Tryz.prog 105 #[.agg #[.int .u8 q.kd,.int .i64 q.tQ,.int .i64 q.el,.int .u16 q.i.c,.int .u8 q.i.t,.int .u8 q.i.f,.int .u32 q.i.k]] w fun e w'=>e=.returned (.bool (ldB q))∧Below w.heap.size w w':=by
 obtain ⟨W,hW⟩:∃W,W=w.alloc (.cells #[.int .u8 q.kd,.int .i64 q.tQ,.int .i64 q.el,.int .u16 q.i.c,.int .u8 q.i.t,.int .u8 q.i.f,.int .u32 q.i.k] 78):=⟨_,rfl⟩
 have hbx:Bk W w.heap.size 78 q.cells:=by rw [hW];exact Bk.new w _ _ rfl
 have hb1:Below w.heap.size w W:=by rw [hW];exact oneb w _
 have HB:=qd hb1
 have HBx:=qd hbx
 go_enter Tryz.func105,Tryz.ntmps105
 go_upto_region 1 with fail
 rw [←hW]
 clear hW hb1 hbx
 generalize hxb:w.heap.size=xb at *
 have HXB:=qd hxb
 clear hxb
 have y0:=HBx.out.cell 0 rfl
 have y3:=HBx.out.cell 3 rfl
 have yl:=HBx.out.lt
 by_cases h2:q.kd=2
 ·have e2:((q.kd:Int)==2)=true:=by rw [h2];rfl
  obtain ⟨bb,hbb⟩:∃bb,bb=decide (q.i.c=32):=⟨_,rfl⟩
  have e6:((q.i.c:Int)==32)=bb:=by
   rw [hbb,Bool.eq_iff_iff,beq_iff_eq,decide_eq_true_eq];omega
  have HV:=qd (show ldB q=bb by unfold ldB;rw [hbb];simp [h2])
  clear h2 hbb
  go_wp2_with fail
  go_ret
  rw [HV.out]
  exact ⟨rfl,by rw [HXB.out];exact HB.out⟩
 have e2:((q.kd:Int)==2)=false:=by rw [beq_eq_false_iff_ne];omega
 have HV:=qd (show ldB q=false by unfold ldB;simp [h2])
 clear h2
 go_wp2_with fail
 go_ret
 rw [HV.out]
 exact ⟨rfl,by rw [HXB.out];exact HB.out⟩
theorem again_any (p l:PtM)(w:World):Calls Tryz.prog 59 #[.agg #[.int .u8 p.kd,.int .i64 p.tQ,.int .i64 p.el,.int .u16 p.i.c,.int .u8 p.i.t,.int .u8 p.i.f,.int .u32 p.i.k],.agg #[.int .u8 l.kd,.int .i64 l.tQ,.int .i64 l.el,.int .u16 l.i.c,.int .u8 l.i.t,.int .u8 l.i.f,.int .u32 l.i.k]] w fun e w'=>e=.returned (.bool (againB p l))∧Below w.heap.size w w':=by
 obtain ⟨W1,hW1⟩:∃W,W=w.alloc (.cells #[.int .u8 p.kd,.int .i64 p.tQ,.int .i64 p.el,.int .u16 p.i.c,.int .u8 p.i.t,.int .u8 p.i.f,.int .u32 p.i.k] 78):=⟨_,rfl⟩
 obtain ⟨W2,hW2⟩:∃W,W=W1.alloc (.cells #[.int .u8 l.kd,.int .i64 l.tQ,.int .i64 l.el,.int .u16 l.i.c,.int .u8 l.i.t,.int .u8 l.i.f,.int .u32 l.i.k] 78):=⟨_,rfl⟩
 have hs1:W1.heap.size=w.heap.size+1:=by rw [hW1];simp
 have hbx:Bk W2 w.heap.size 78 p.cells:=by rw [hW2];exact (show Bk W1 w.heap.size 78 p.cells by rw [hW1];exact Bk.new w _ _ rfl).kept (oneb W1 _)
 have hby:Bk W2 (w.heap.size+1) 78 l.cells:=by rw [hW2,←hs1];exact Bk.new W1 _ _ rfl
 have hb1:Below w.heap.size w W2:=by rw [hW2];exact (show Below w.heap.size w W1 by rw [hW1];exact oneb w _).trans ((oneb W1 _).mono (by omega))
 have HB:=qd hb1
 have HBx:=qd hbx
 have HBy:=qd hby
 go_enter Tryz.func59,Tryz.ntmps59
 go_upto_region 1 with fail
 rw [←hW1,←hW2]
 clear hW1 hW2 hb1 hbx hby hs1
 generalize hxa:w.heap.size=xa at *
 generalize hxb:xa+1=xb at *
 have HXA:=qd hxa
 clear hxa hxb
 have y0:=HBx.out.cell 0 rfl
 have y1:=HBx.out.cell 1 rfl
 have y2:=HBx.out.cell 2 rfl
 have y3:=HBx.out.cell 3 rfl
 have y4:=HBx.out.cell 4 rfl
 have y5:=HBx.out.cell 5 rfl
 have y6:=HBx.out.cell 6 rfl
 have yl:=HBx.out.lt
 go_wp2_with fail
 refine (loads_any p _).mono ?_
 clear y0 y1 y2 y3 y4 y5 y6 yl
 rintro e w3 ⟨rfl,hb3⟩
 have HBx:=qd (HBx.out.kept hb3)
 have HBy:=qd (HBy.out.kept hb3)
 have HB3:=qd (show Below w.heap.size w w3 from by rw [HXA.out];exact HB.out.trans (hb3.mono (by have:=HB.out.size;have:=HXA.out;omega)))
 clear hb3
 obtain ⟨b1,hb1⟩:∃b,b=ldB p:=⟨_,rfl⟩
 rw [←hb1]
 cases b1 with
 | false=>
  have HV:=qd (show againB p l=false by unfold againB;rw [←hb1];rfl)
  clear hb1
  go_wp2_with fail
  go_ret
  rw [HV.out]
  exact ⟨rfl,HB3.out⟩
 | true=>
 have HV1:=qd hb1
 clear hb1
 have y0:=HBy.out.cell 0 rfl
 have y1:=HBy.out.cell 1 rfl
 have y2:=HBy.out.cell 2 rfl
 have y3:=HBy.out.cell 3 rfl
 have y4:=HBy.out.cell 4 rfl
 have y5:=HBy.out.cell 5 rfl
 have y6:=HBy.out.cell 6 rfl
 have yl:=HBy.out.lt
 go_wp2_with fail
 refine (loads_any l _).mono ?_
 clear y0 y1 y2 y3 y4 y5 y6 yl
 rintro e w4 ⟨rfl,hb4⟩
 have HBx:=qd (HBx.out.kept hb4)
 have HBy:=qd (HBy.out.kept hb4)
 have HB4:=qd (HB3.out.trans (hb4.mono HB3.out.size))
 clear hb4
 obtain ⟨b2,hb2⟩:∃b,b=ldB l:=⟨_,rfl⟩
 rw [←hb2]
 cases b2 with
 | false=>
  have HV:=qd (show againB p l=false by unfold againB;rw [←hb2];simp)
  clear hb2
  go_wp2_with fail
  go_ret
  rw [HV.out]
  exact ⟨rfl,HB4.out⟩
 | true=>
 obtain ⟨b3,hb3⟩:∃b,b=decide (p.i.k=l.i.k):=⟨_,rfl⟩
 have HV:=qd (show againB p l=b3 by unfold againB;rw [←hb2,←HV1.out,←hb3];rfl)
 have e3:((p.i.k:Int)==(l.i.k:Int))=b3:=by rw [hb3,Bool.eq_iff_iff,beq_iff_eq,decide_eq_true_eq];omega
 clear hb2 hb3
 have y6:=HBx.out.cell 6 rfl
 have z6:=HBy.out.cell 6 rfl
 have yl:=HBx.out.lt
 have zl:=HBy.out.lt
 go_wp2_with fail
 go_ret
 rw [HV.out]
 exact ⟨rfl,HB4.out⟩
structure PkR (w wr:World)(v:Value)(xb:Nat)(left:List PtM)(last:PtM):Prop where
 bel:Below w.heap.size w wr
 row:wr.ownsRow w.heap.size 78 7 v left.length (left.flatMap PtM.cells)
 box:Bk wr xb 78 last.cells
 ge:w.heap.size≤xb
 off:∀g,v.ownBlock=some g→g≠xb
theorem PkR.kept {w wr w':World}{v:Value}{xb:Nat}{s:List PtM}{q:PtM}(h:PkR w wr v xb s q)(hb:Below wr.heap.size wr w'):PkR w w' v xb s q:=⟨h.bel.trans (hb.mono h.bel.size),own_keepN h.row hb,h.box.kept hb,h.ge,h.off⟩
theorem PkR.more {w wr w':World}{v v':Value}{xb:Nat}{s:List PtM}{l q:PtM}(h:PkR w wr v xb s l)(hr:w'.ownsRow w.heap.size 78 7 v' (s.length+1) (s.flatMap PtM.cells++q.cells))(hg:wr.grownBy w' v.ownBlock)(hv:v'.ownBlock=v.ownBlock∨v'.ownBlock=some wr.heap.size):PkR w w' v' xb (s++[q]) l:=
 ⟨h.bel.grown hg h.bel.size (fun r e=>(own_ge h.row r e).1),by simpa using hr,h.box.grown hg (fun e=>h.off _ e.symm rfl),h.ge,fun g e=>by
  rcases hv with a|a
  ·exact h.off g (by rw [←a];exact e)
  ·rw [a] at e;cases e;have:=h.box.lt;omega⟩
theorem PkR.slice {w wr:World}{v:Value}{xb:Nat}{s:List PtM}{q:PtM}(h:PkR w wr v xb s q):∃A cp,v=.slice A s.length cp:=by obtain ⟨A,cp,e,_⟩:=own_typed h.row;exact ⟨A,cp,e⟩
theorem peep_any (l:List PtM)(n:Nat)(A:Option Addr)(cap:Nat)(w:World)(hl:l.length=n)(hn:n≤65536)(hr:Rd w 7 n A (l.flatMap PtM.cells)) :
  Calls Tryz.prog 24 #[.slice A n cap] w (ClP2 (peepF l) w):=by
 have HR:=qd hr
 have HL:=qd hl
 clear hr hl
 go_enter Tryz.func24,Tryz.ntmps24
 go_upto_region 3 with fail
 have hbx:=Bk.new w 78 #[.int .u8 0,.int .i64 0,.int .i64 0,.int .u16 0,.int .u8 0,.int .u8 0,.int .u32 0] (l:=zPt.cells) rfl
 have hb1:=oneb w (.cells #[.int .u8 0,.int .i64 0,.int .i64 0,.int .u16 0,.int .u8 0,.int .u8 0,.int .u32 0] 78)
 have HA:=qd (show PkR w (w.alloc (.cells #[.int .u8 0,.int .i64 0,.int .i64 0,.int .u16 0,.int .u8 0,.int .u8 0,.int .u32 0] 78)) (.slice none 0 0) w.heap.size [] zPt from ⟨hb1,World.ownsRow_nil _ _ _ _,hbx,Nat.le_refl _,fun g e=>by cases e⟩)
 generalize World.alloc w _=w1 at HA ⊢
 obtain ⟨xb,hxb⟩:∃x,x=w.heap.size:=⟨_,rfl⟩
 rw [←hxb] at HA ⊢
 clear hbx hb1 hxb
 go_wp2_with fail
 go_loopw [3,9] (fun sv iv wz=>∃(i:Nat) (s:List PtM) (q:PtM) (B:Option Addr) (c9:Nat),iv=.int .i64 i∧sv=.slice B s.length c9∧i≤n∧s.length≤i∧Hid (PkR w wz (.slice B s.length c9) xb s q)∧Hid (peepT (l.take i)=(s,q))) (fun _ iv _=>n-(intOf iv).toNat)
 case atStart=>exact ⟨0,[],zPt,none,0,rfl,rfl,Nat.zero_le _,Nat.le_refl _,HA,qd rfl⟩
 case round=>
  clear HA
  rename World=>wz
  obtain ⟨i,s,q,B,c9,rfl,rfl,hi,hli,HA,HF⟩:=hrel
  by_cases hlt:i<n
  ·obtain ⟨x,hx⟩:∃x,l[i]?=some x:=⟨_,List.getElem?_eq_getElem (by have:=HL.out;omega)⟩
   obtain ⟨b,o,hA,hbl,hcell⟩:=(HR.out.below HA.out.bel).one (fun _=>rfl) (by omega) (by omega)
   obtain ⟨c0,c1,c2,c3,c4,c5,c6⟩:=seven_cells hcell hx
   subst hA
   have HT:=qd (show peepT (l.take (i+1))=if againB x q=true then (s,q) else (s++[x],nxtP q x) by
    rw [List.take_add_one,hx]
    show peepT (l.take i++[x])=_
    rw [peepT_snoc,HF.out])
   clear hcell hx
   go_upto_region 6 with fail
   have hb2:=oneb wz (.cells #[.int .u8 x.kd,.int .i64 x.tQ,.int .i64 x.el,.int .u16 x.i.c,.int .u8 x.i.t,.int .u8 x.i.f,.int .u32 x.i.k] 78)
   have hk:=Bk.new wz 78 #[.int .u8 x.kd,.int .i64 x.tQ,.int .i64 x.el,.int .u16 x.i.c,.int .u8 x.i.t,.int .u8 x.i.f,.int .u32 x.i.k] (l:=x.cells) rfl
   generalize World.alloc wz _=w4 at hb2 hk ⊢
   have hvx:∀g,(Value.slice B s.length c9).ownBlock=some g→g<wz.heap.size:=fun g hg=>(own_ge HA.out.row g hg).2
   have hxl:=HA.out.box.lt
   obtain ⟨xk,hxk⟩:∃x,x=wz.heap.size:=⟨_,rfl⟩
   rw [←hxk] at hk hvx hxl ⊢
   have HA:=qd (HA.out.kept hb2)
   have HVX:=qd hvx
   have HXL:=qd hxl
   have HK:=qd hk
   clear c0 c1 c2 c3 c4 c5 c6 hbl hb2 hk hvx hxk hxl
   have y0:=HK.out.cell 0 rfl
   have y1:=HK.out.cell 1 rfl
   have y2:=HK.out.cell 2 rfl
   have y3:=HK.out.cell 3 rfl
   have y4:=HK.out.cell 4 rfl
   have y5:=HK.out.cell 5 rfl
   have y6:=HK.out.cell 6 rfl
   have yl:=HK.out.lt
   have z0:=HA.out.box.cell 0 rfl
   have z1:=HA.out.box.cell 1 rfl
   have z2:=HA.out.box.cell 2 rfl
   have z3:=HA.out.box.cell 3 rfl
   have z4:=HA.out.box.cell 4 rfl
   have z5:=HA.out.box.cell 5 rfl
   have z6:=HA.out.box.cell 6 rfl
   have zl:=HA.out.box.lt
   go_wp2_with fail
   refine (again_any x q _).mono ?_
   clear y0 y1 y2 y3 y4 y5 y6 yl z0 z1 z2 z3 z4 z5 z6 zl
   rintro e w5 ⟨rfl,hb5⟩
   have HA5:=qd (HA.out.kept hb5)
   have HK5:=qd (HK.out.kept hb5)
   clear hb5 HA HK
   obtain ⟨bb,hbb⟩:∃b,b=againB x q:=⟨_,rfl⟩
   rw [←hbb] at HT ⊢
   cases bb with
   | true=>
    have HT:=qd (HT.out.trans (if_pos rfl))
    clear hbb
    go_wp2_with fail
    go_roundw
    case rel=>exact ⟨i+1,s,q,B,c9,by go_num,rfl,by omega,by omega,HA5,HT⟩
    case measure=>simp [intOf];omega
   | false=>
    have HT:=qd (HT.out.trans (if_neg (by decide)))
    clear hbb
    have y0:=HK5.out.cell 0 rfl
    have y1:=HK5.out.cell 1 rfl
    have y2:=HK5.out.cell 2 rfl
    have y3:=HK5.out.cell 3 rfl
    have y4:=HK5.out.cell 4 rfl
    have y5:=HK5.out.cell 5 rfl
    have y6:=HK5.out.cell 6 rfl
    have yl:=HK5.out.lt
    have HA5b:=qd (HA5.out.kept (oneb w5 (.cells #[.int .u8 x.kd,.int .i64 x.tQ,.int .i64 x.el,.int .u16 x.i.c,.int .u8 x.i.t,.int .u8 x.i.f,.int .u32 x.i.k] 78)))
    have HK5b:=qd (HK5.out.kept (oneb w5 (.cells #[.int .u8 x.kd,.int .i64 x.tQ,.int .i64 x.el,.int .u16 x.i.c,.int .u8 x.i.t,.int .u8 x.i.f,.int .u32 x.i.k] 78)))
    by_cases hs:x.kd=2∨x.kd=1
    ·have HT:=qd (show peepT (l.take (i+1))=(s++[x],x) by rw [HT.out];unfold nxtP;rw [if_pos hs])
     rcases hs with h2|h1
     ·have e2:((x.kd:Int)==2)=true:=by rw [h2];rfl
      clear h2
      go_wp2_with (at_builtin;refine append_one rfl (.tmp 16) (.tmp 18) 67 78 rfl _ 7 32 infoPart Tryz.underlying67 rfl (by decide) (by decide) w.heap.size _ s.length (s.flatMap PtM.cells) rfl HA5b.out.row w5.heap.size [.int .u8 x.kd,.int .i64 x.tQ,.int .i64 x.el,.int .u16 x.i.c,.int .u8 x.i.t,.int .u8 x.i.f,.int .u32 x.i.k] rfl rfl (Bk.new w5 _ _ rfl) (pt_one x) (by omega) HA5b.out.bel.size ?_;intro v' w6 hown hgrow hv6;have HA6:=qd (HA5b.out.more (q:=x) hown hgrow hv6);have HK6:=qd (HK5b.out.grown hgrow (fun e=>by have:=HVX.out _ e.symm;omega));clear y0 y1 y2 y3 y4 y5 y6 yl hown hgrow hv6 HA5b HK5b HA5 HK5;obtain ⟨A7,c7,hv7⟩:=HA6.out.slice;obtain ⟨n7,hn7⟩:∃n7,n7=(s++[x]).length:=⟨_,rfl⟩;rw [←hn7] at hv7;subst hv7;have HN7:=qd hn7;clear hn7;have y0:=HK6.out.cell 0 rfl;have y1:=HK6.out.cell 1 rfl;have y2:=HK6.out.cell 2 rfl;have y3:=HK6.out.cell 3 rfl;have y4:=HK6.out.cell 4 rfl;have y5:=HK6.out.cell 5 rfl;have y6:=HK6.out.cell 6 rfl;have yl:=HK6.out.lt;have z0:=HA6.out.box.cell 0 rfl;have z1:=HA6.out.box.cell 1 rfl;have z2:=HA6.out.box.cell 2 rfl;have z3:=HA6.out.box.cell 3 rfl;have z4:=HA6.out.box.cell 4 rfl;have z5:=HA6.out.box.cell 5 rfl;have z6:=HA6.out.box.cell 6 rfl;have zl:=HA6.out.box.lt;have f0:=HA6.out.box.fz 0;have f1:=HA6.out.box.fz 1;have f2:=HA6.out.box.fz 2;have f3:=HA6.out.box.fz 3;have f4:=HA6.out.box.fz 4;have f5:=HA6.out.box.fz 5;have f6:=HA6.out.box.fz 6)
      clear y0 y1 y2 y3 y4 y5 y6 yl z0 z1 z2 z3 z4 z5 z6 zl f0 f1 f2 f3 f4 f5 f6
      obtain ⟨hp1,hp2⟩:=put_part HA6.out.box x
      have HA7:Hid (PkR w (W7 w6 xb x) (.slice A7 n7 c7) xb (s++[x]) x):=qd ⟨only_below HA6.out.bel hp2 HA6.out.bel.size HA6.out.ge,own_keep HA6.out.row hp2 (fun g e=>HA6.out.off g e),hp1,HA6.out.ge,HA6.out.off⟩
      unfold W7 at HA7
      clear hp1 hp2
      rw [HN7.out] at HA7
      go_roundw
      case rel=>exact ⟨i+1,s++[x],x,A7,c7,by go_num,by rw [HN7.out],by omega,by simp only [List.length_append,List.length_cons,List.length_nil];omega,HA7,HT⟩
      case measure=>simp [intOf];omega
     ·have e2:((x.kd:Int)==2)=false:=by rw [h1];rfl
      have e1:((x.kd:Int)==1)=true:=by rw [h1];rfl
      clear h1
      go_wp2_with (at_builtin;refine append_one rfl (.tmp 16) (.tmp 18) 67 78 rfl _ 7 32 infoPart Tryz.underlying67 rfl (by decide) (by decide) w.heap.size _ s.length (s.flatMap PtM.cells) rfl HA5b.out.row w5.heap.size [.int .u8 x.kd,.int .i64 x.tQ,.int .i64 x.el,.int .u16 x.i.c,.int .u8 x.i.t,.int .u8 x.i.f,.int .u32 x.i.k] rfl rfl (Bk.new w5 _ _ rfl) (pt_one x) (by omega) HA5b.out.bel.size ?_;intro v' w6 hown hgrow hv6;have HA6:=qd (HA5b.out.more (q:=x) hown hgrow hv6);have HK6:=qd (HK5b.out.grown hgrow (fun e=>by have:=HVX.out _ e.symm;omega));clear y0 y1 y2 y3 y4 y5 y6 yl hown hgrow hv6 HA5b HK5b HA5 HK5;obtain ⟨A7,c7,hv7⟩:=HA6.out.slice;obtain ⟨n7,hn7⟩:∃n7,n7=(s++[x]).length:=⟨_,rfl⟩;rw [←hn7] at hv7;subst hv7;have HN7:=qd hn7;clear hn7;have y0:=HK6.out.cell 0 rfl;have y1:=HK6.out.cell 1 rfl;have y2:=HK6.out.cell 2 rfl;have y3:=HK6.out.cell 3 rfl;have y4:=HK6.out.cell 4 rfl;have y5:=HK6.out.cell 5 rfl;have y6:=HK6.out.cell 6 rfl;have yl:=HK6.out.lt;have z0:=HA6.out.box.cell 0 rfl;have z1:=HA6.out.box.cell 1 rfl;have z2:=HA6.out.box.cell 2 rfl;have z3:=HA6.out.box.cell 3 rfl;have z4:=HA6.out.box.cell 4 rfl;have z5:=HA6.out.box.cell 5 rfl;have z6:=HA6.out.box.cell 6 rfl;have zl:=HA6.out.box.lt;have f0:=HA6.out.box.fz 0;have f1:=HA6.out.box.fz 1;have f2:=HA6.out.box.fz 2;have f3:=HA6.out.box.fz 3;have f4:=HA6.out.box.fz 4;have f5:=HA6.out.box.fz 5;have f6:=HA6.out.box.fz 6)
      clear y0 y1 y2 y3 y4 y5 y6 yl z0 z1 z2 z3 z4 z5 z6 zl f0 f1 f2 f3 f4 f5 f6
      obtain ⟨hp1,hp2⟩:=put_part HA6.out.box x
      have HA7:Hid (PkR w (W7 w6 xb x) (.slice A7 n7 c7) xb (s++[x]) x):=qd ⟨only_below HA6.out.bel hp2 HA6.out.bel.size HA6.out.ge,own_keep HA6.out.row hp2 (fun g e=>HA6.out.off g e),hp1,HA6.out.ge,HA6.out.off⟩
      unfold W7 at HA7
      clear hp1 hp2
      rw [HN7.out] at HA7
      go_roundw
      case rel=>exact ⟨i+1,s++[x],x,A7,c7,by go_num,by rw [HN7.out],by omega,by simp only [List.length_append,List.length_cons,List.length_nil];omega,HA7,HT⟩
      case measure=>simp [intOf];omega
    ·have HT:=qd (show peepT (l.take (i+1))=(s++[x],q) by rw [HT.out];unfold nxtP;rw [if_neg hs])
     have e2:((x.kd:Int)==2)=false:=by rw [beq_eq_false_iff_ne];omega
     have e1:((x.kd:Int)==1)=false:=by rw [beq_eq_false_iff_ne];omega
     clear hs
     go_wp2_with (at_builtin;refine append_one rfl (.tmp 16) (.tmp 18) 67 78 rfl _ 7 32 infoPart Tryz.underlying67 rfl (by decide) (by decide) w.heap.size _ s.length (s.flatMap PtM.cells) rfl HA5b.out.row w5.heap.size [.int .u8 x.kd,.int .i64 x.tQ,.int .i64 x.el,.int .u16 x.i.c,.int .u8 x.i.t,.int .u8 x.i.f,.int .u32 x.i.k] rfl rfl (Bk.new w5 _ _ rfl) (pt_one x) (by omega) HA5b.out.bel.size ?_;intro v' w6 hown hgrow hv6;have HA6:=qd (HA5b.out.more (q:=x) hown hgrow hv6);have HK6:=qd (HK5b.out.grown hgrow (fun e=>by have:=HVX.out _ e.symm;omega));clear y0 y1 y2 y3 y4 y5 y6 yl hown hgrow hv6 HA5b HK5b HA5 HK5;obtain ⟨A7,c7,hv7⟩:=HA6.out.slice;obtain ⟨n7,hn7⟩:∃n7,n7=(s++[x]).length:=⟨_,rfl⟩;rw [←hn7] at hv7;subst hv7;have HN7:=qd hn7;clear hn7;have y0:=HK6.out.cell 0 rfl;have y1:=HK6.out.cell 1 rfl;have y2:=HK6.out.cell 2 rfl;have y3:=HK6.out.cell 3 rfl;have y4:=HK6.out.cell 4 rfl;have y5:=HK6.out.cell 5 rfl;have y6:=HK6.out.cell 6 rfl;have yl:=HK6.out.lt;have z0:=HA6.out.box.cell 0 rfl;have z1:=HA6.out.box.cell 1 rfl;have z2:=HA6.out.box.cell 2 rfl;have z3:=HA6.out.box.cell 3 rfl;have z4:=HA6.out.box.cell 4 rfl;have z5:=HA6.out.box.cell 5 rfl;have z6:=HA6.out.box.cell 6 rfl;have zl:=HA6.out.box.lt;have f0:=HA6.out.box.fz 0;have f1:=HA6.out.box.fz 1;have f2:=HA6.out.box.fz 2;have f3:=HA6.out.box.fz 3;have f4:=HA6.out.box.fz 4;have f5:=HA6.out.box.fz 5;have f6:=HA6.out.box.fz 6)
     rw [HN7.out] at HA6
     go_roundw
     case rel=>exact ⟨i+1,s++[x],q,A7,c7,by go_num,by rw [HN7.out],by omega,by simp only [List.length_append,List.length_cons,List.length_nil];omega,HA6,HT⟩
     case measure=>simp [intOf];omega
  ·go_wp2_with fail
   go_ret
   have hE:s=peepF l:=by
    have h:=HF.out
    rw [List.take_of_length_le (by have:=HL.out;omega)] at h
    rw [←peepT_fst,h]
   rw [←hE]
   exact ⟨_,_,rfl,HA.out.row,HA.out.bel⟩
end Go.Proofs.YtcnebdjhhfnmoaaGreatDoor.Co
