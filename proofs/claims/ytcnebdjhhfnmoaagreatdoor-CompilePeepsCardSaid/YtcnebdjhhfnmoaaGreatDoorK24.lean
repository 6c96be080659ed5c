/- A plan in memory: a case more; the plan as lists. -/
import Derived.Test.YtcnebdjhhfnmoaaGreatDoorK23
import Derived.Test.YtcnebdjhhfnmoaaGreatDoorK14
import Derived.Test.YtcnebdjhhfnmoaaGreatDoorK22
import Derived.Test.YtcnebdjhhfnmoaaGreatDoorK13
set_option linter.unusedSimpArgs false
set_option maxHeartbeats 32000000
set_option maxRecDepth 100000
namespace Go.Proofs.YtcnebdjhhfnmoaaGreatDoor.Ir
open Go.RowKit Go.WideElems
theorem infoCa:(Tryz.prog.info? 166).map (fun i=>(i.zero,i.size,i.bytes))=some (some (.agg #[.int .u32 0,.slice none 0 0]),2,32):=by kernel_rfl
structure CaM where
 num:Nat
 brs:List BrM
def CaV.m (c:CaV):CaM:=⟨c.num,c.brs.map BrV.m⟩
def stF:Option (List CaM×Nat×List BrM)→RuleM→Option (List CaM×Nat×List BrM)
 | none,r=>some ([],r.num,addF [] r)
 | some (cs,num,lb),r=>if r.num=num then some (cs,num,addF lb r) else some (cs++[⟨num,lb⟩],r.num,addF [] r)
def stE:Option (List CaM×Nat×List BrM)→List CaM
 | none=>[]
 | some (cs,num,lb)=>cs++[⟨num,lb⟩]
def ofF (l:List RuleM):List CaM:=stE (l.foldl stF none)
structure PlanR (w:World) (A:Option Addr) (cs:List CaV):Prop where
 row:TRd w 166 2 cs.length A (cs.flatMap CaV.cells)
 brs:∀c∈cs,TRd w 209 2 c.brs.length c.A (c.brs.flatMap BrV.cells)
 con:∀c∈cs,∀b∈c.brs,Con w b
structure P0 (w0 wr:World) (pb d:Nat):Prop where
 bel:Below w0.heap.size w0 wr
 pb0:w0.heap.size≤pb
 box:Bk wr pb 71 [.slice none 0 0,.int .u32 d]
theorem own_some {w:World} {B:Nat} {e:TypeId} {z n:Nat} {v:Value} {xs:List Value} (h:w.ownsRow B e z v (n+1) xs):∃g cap,v=.slice (some ⟨g,0,none⟩) (n+1) cap∧B≤g:=by
 obtain ⟨_,⟨_,h3⟩|⟨g,cap,cur,h2,h3,_⟩⟩:=h
 ·omega
 ·exact ⟨g,cap,h2,h3⟩
section
variable {w0 wr w':World} {cs:List CaV} {num:Nat} {lb:List BrV} {g cap:Nat} {vB:Value} {Bb pb d:Nat}
theorem P0.kept (h:P0 w0 wr pb d) (hb:Below wr.heap.size wr w'):P0 w0 w' pb d:=⟨h.bel.trans (hb.mono h.bel.size),h.pb0,h.box.kept hb⟩
theorem P0.first (h:P0 w0 wr pb d) {x g' cap':Nat} (hr:w'.ownsRow w0.heap.size 166 2 (.slice (some ⟨g',0,none⟩) 1 cap') 1 [.int .u32 x,.slice none 0 0]) (hg:wr.grownBy w' none) :
  PS w0 (w'.setCell ⟨pb,0,none⟩ (.slice (some ⟨g',0,none⟩) 1 cap')) [] x [] g' cap' (.slice none 0 0) w'.heap.size pb d:=by
 have hb:Below wr.heap.size wr w':=⟨hg.os,hg.tape,hg.output,hg.size,fun k hk=>hg.block k hk (by simp)⟩
 have hbx:=h.box.kept hb
 have hs:=only_set w' pb 0 (.slice (some ⟨g',0,none⟩) 1 cap')
 have htg:TyB w' g' 166:=by obtain ⟨_,_,_,_,_,h1,_⟩:=own_typed hr;exact h1 g' rfl
 refine ⟨((h.bel.trans (hb.mono h.bel.size))).setCell h.pb0 _,h.pb0,hbx.set 0 _,own_keep hr hs (fun b hb=>by cases hb;exact htg.ne hbx.tyb (by decide)),World.ownsRow_nil _ _ _ _,⟨Nat.le_trans h.bel.size (Nat.le_trans hg.size (Nat.le_refl _)),hs.size⟩,by simp,by simp,by simp⟩
theorem PS.newCase (h:PS w0 wr cs num lb g cap vB Bb pb d) {Ab:Option Addr} {cb:Nat} (hv:vB=.slice Ab lb.length cb) {x g' cap':Nat} (hr:w'.ownsRow w0.heap.size 166 2 (.slice (some ⟨g',0,none⟩) (cs.length+1+1) cap') (cs.length+1+1) (cs.flatMap CaV.cells++[.int .u32 num,vB]++[.int .u32 x,.slice none 0 0])) (hg:wr.grownBy w' (some g)) :
  PS w0 (w'.setCell ⟨pb,0,none⟩ (.slice (some ⟨g',0,none⟩) (cs.length+1+1) cap')) (cs++[⟨num,lb,Ab,cb⟩]) x [] g' cap' (.slice none 0 0) w'.heap.size pb d:=by
 subst hv
 have htg:TyB wr g 166:=by obtain ⟨_,_,_,_,_,h1,_⟩:=own_typed h.row;exact h1 g rfl
 have htg':TyB w' g' 166:=by obtain ⟨_,_,_,_,_,h1,_⟩:=own_typed hr;exact h1 g' rfl
 have hg0:=own_ge h.row g rfl
 have hbx:Bk w' pb 71 _:=h.box.grown hg (fun e=>(h.box.tyb.ne htg (by decide)) (Option.some.inj e))
 have hs:=only_set w' pb 0 (.slice (some ⟨g',0,none⟩) (cs.length+1+1) cap')
 have hBb:=h.hb.2
 have hT:∀{T:TypeId} {z n:Nat} {A:Option Addr} {xs:List Value},TRd wr T z n A xs→T≠166→T≠71→TRd (w'.setCell ⟨pb,0,none⟩ (.slice (some ⟨g',0,none⟩) (cs.length+1+1) cap')) T z n A xs:=fun ht n1 n2=>by
  have h1:=ht.grown hg (ht.off htg n1)
  exact h1.grown hs (h1.off hbx.tyb n2)
 refine ⟨?_,h.pb0,?_,?_,World.ownsRow_nil _ _ _ _,⟨Nat.le_trans h.hb.1 (Nat.le_trans hBb hg.size),hs.size⟩,fun c hc=>?_,fun c hc b hb=>?_,by simp⟩
 ·exact (h.bel.trans (bel_grown hg hg0 h.bel.size)).setCell h.pb0 _
 ·rw [List.length_append];exact hbx.set 0 _
 ·rw [List.length_append,List.flatMap_append]
  have h1:=own_keep hr hs (fun b hb=>by cases hb;exact htg'.ne hbx.tyb (by decide))
  simpa [CaV.cells] using h1
 ·rcases List.mem_append.1 hc with hc|hc
  ·obtain ⟨o1,o2⟩:=h.old c hc
   exact ⟨hT o1 (by decide) (by decide),o2.imp id fun ⟨a,e,hl⟩=>⟨a,e,by have:=hg.size;omega⟩⟩
  ·rw [List.mem_singleton.1 hc]
   obtain ⟨A1,c1,h1,_,h2,_⟩:=own_typed h.brs
   cases h1
   refine ⟨hT h2 (by decide) (by decide),?_⟩
   rcases h2.ty with e|⟨a,e,ht⟩
   ·exact Or.inl e
   ·exact Or.inr ⟨a,e,Nat.lt_of_lt_of_le ht.lt hg.size⟩
 ·rcases List.mem_append.1 hc with hc|hc
  ·exact hT (h.con c hc b hb) (by decide) (by decide)
  ·rw [List.mem_singleton.1 hc] at hb
   exact hT (h.conl b hb) (by decide) (by decide)
theorem PS.plan (h:PS w0 wr cs num lb g cap vB Bb pb d):∃cs',cs'.map CaV.m=cs.map CaV.m++[⟨num,lb.map BrV.m⟩]∧cs'.length=cs.length+1∧PlanR wr (some ⟨g,0,none⟩) cs':=by
 obtain ⟨Ab,cb,hv,_,h2,_⟩:=own_typed h.brs
 refine ⟨cs++[⟨num,lb,Ab,cb⟩],by rw [List.map_append];rfl,by simp,?_,fun c hc=>?_,fun c hc b hb=>?_⟩
 ·obtain ⟨A1,c1,h1,_,h3,_⟩:=own_typed h.row
  cases h1
  rw [hv] at h3
  have e:(cs++[(⟨num,lb,Ab,cb⟩:CaV)]).flatMap CaV.cells=cs.flatMap CaV.cells++[.int .u32 num,.slice Ab lb.length cb]:=by rw [List.flatMap_append];simp [CaV.cells]
  rw [e,List.length_append];exact h3
 ·rcases List.mem_append.1 hc with hc|hc
  ·exact (h.old c hc).1
  ·rw [List.mem_singleton.1 hc];exact h2
 ·rcases List.mem_append.1 hc with hc|hc
  ·exact h.con c hc b hb
  ·rw [List.mem_singleton.1 hc] at hb;exact h.conl b hb
end
end Go.Proofs.YtcnebdjhhfnmoaaGreatDoor.Ir
namespace Go.Proofs.YtcnebdjhhfnmoaaGreatDoor.Lo
open Go.Proofs.YtcnebdjhhfnmoaaGreatDoor.Ju Go.Proofs.YtcnebdjhhfnmoaaGreatDoor.Ir Go.Proofs.YtcnebdjhhfnmoaaGreatDoor.Me
theorem lay_zero {p:PtM} {t:List PtM} {r:Nat×CdM} (ih:Cod t r) (hf:Fwd (p::t)) (hp:Fin1 p):(layF p r.2).1=0:=by
 unfold layF
 by_cases k1:p.kd=1
 ·rw [if_pos k1,ih.no _ (hf.2.1 k1)]
 rw [if_neg k1]
 by_cases k2:p.kd=2
 ·have hc:=hp.smp.1 k2
  rw [if_pos k2,if_neg (by omega)]
 rw [if_neg k2]
 by_cases k3:p.kd=3
 ·have hc:=hp.smp.2 k3
  obtain ⟨bt,hbt⟩:=ih.nm p.tQ (hf.2.2 p.tQ (Or.inl ⟨k3,Or.inl rfl⟩))
  obtain ⟨bf,hbf⟩:=ih.nm p.el (hf.2.2 p.el (Or.inl ⟨k3,Or.inr rfl⟩))
  rw [if_pos k3,if_neg (by omega),hbt,hbf]
 rw [if_neg k3]
 have k4:p.kd=4:=by have:=hp.kd;omega
 obtain ⟨b,hb⟩:=ih.nm p.tQ (hf.2.2 p.tQ (Or.inr ⟨k4,rfl⟩))
 rw [if_pos k4,hb]
theorem ahead2 {p:PtM} {t:List PtM} {r:Nat×CdM} (h:Cod t r) (x:List Ins) (hk:p.kd≠1) (hx:x.length≤wtP p) (hw:(x++r.2.ins).length≤4096) (hl:layF p r.2=(0,⟨x++r.2.ins,r.2.bh⟩))
  (ha:∀(a:Nat) (i:Ins),x[a]?=some i→alone i (x.length-a-1+r.2.ins.length)=0) (hs:∀i∈x,i.c=32∨i.c=84∨i.c=6∨i.c=5∨i.c=21∨i.c=37∨i.c=53∨i.c=69):Cod (p::t) (stepF p r):=by
 have hlen:=h.len
 have hwt:wtL (p::t)=wtP p+wtL t:=rfl
 rw [step_of h.ok (by rw [hl];exact hw),hl]
 rw [List.length_append] at hw
 have hh:∀n,HasN n (p::t)↔HasN n t:=fun n=>by
  rw [has_cons]
  exact ⟨fun a=>by rcases a with ⟨a,_⟩|a;exact absurd a hk;exact a,Or.inr⟩
 exact ⟨rfl,fun n a=>h.nm n ((hh n).1 a),fun n a=>h.no n (fun b=>a ((hh n).2 b)),fun n k a=>by have:=h.at_ n k a;simp only [List.length_append];omega,
  by simp only [List.length_append];omega,by have:=h.pos;simp only [List.length_append];omega,all_app h.all ha,
  fun i hi=>by rcases List.mem_append.1 hi with b|b;exact hs i b;exact h.smp i b,last_app h.pos h.ends⟩
theorem cod_step {p:PtM} {t:List PtM} {r:Nat×CdM} (ih:Cod t r) (hf:Fwd (p::t)) (hp:Fin1 p) (h4:(layF p r.2).2.ins.length≤4096):Cod (p::t) (stepF p r):=by
 have hw:∀{x:List Ins} {c:List (Int×Nat)},layF p r.2=(0,⟨x,c⟩)→x.length≤4096:=fun e=>by rw [e] at h4;exact h4
 have hwt:wtL (p::t)=wtP p+wtL t:=rfl
 have hpos:=ih.pos
 have hlen:=ih.len
 by_cases k1:p.kd=1
 ·have hno:=hf.2.1 k1
  have e:layF p r.2=(0,⟨r.2.ins,(p.tQ,r.2.ins.length)::r.2.bh⟩):=by unfold layF;rw [if_pos k1,ih.no _ hno]
  rw [step_of ih.ok (by rw [e];exact hw e),e]
  refine ⟨rfl,fun n a=>?_,fun n a=>?_,fun n k a=>?_,by rw [hwt];simp only;omega,ih.pos,ih.all,ih.smp,ih.ends⟩
  ·simp only [lk_cons]
   by_cases en:p.tQ=n
   ·rw [if_pos en];exact ⟨_,rfl⟩
   ·rw [if_neg en]
    rcases has_cons.1 a with ⟨_,a⟩|a
    ·exact absurd a en
    ·exact ih.nm n a
  ·simp only [lk_cons]
   rw [if_neg (fun en=>a (has_cons.2 (Or.inl ⟨k1,en⟩)))]
   exact ih.no n (fun b=>a (has_cons.2 (Or.inr b)))
  ·simp only [lk_cons] at a
   split at a
   ·cases a;exact ⟨hpos,Nat.le_refl _⟩
   ·exact ih.at_ n k a
 by_cases k2:p.kd=2
 ·have hc:=hp.smp.1 k2
  have e:layF p r.2=(0,⟨[p.i]++r.2.ins,r.2.bh⟩):=by unfold layF;rw [if_neg k1,if_pos k2,if_neg (by omega)];rfl
  refine ahead2 ih [p.i] k1 (by unfold wtP;rw [if_neg (by omega),if_pos (Or.inl k2)];simp) (hw e) e (one_at (Q:=fun a i=>alone i ([p.i].length-a-1+r.2.ins.length)=0) (alone_plain hc (hp.rg k2) (Or.inl (by omega)))) (fun i hi=>by rw [List.mem_singleton] at hi;subst hi;omega)
 by_cases k4:p.kd=4
 ·obtain ⟨b,hb⟩:=ih.nm p.tQ (hf.2.2 p.tQ (Or.inr ⟨k4,rfl⟩))
  obtain ⟨b1,b2⟩:=ih.at_ _ _ hb
  have e:layF p r.2=(0,⟨[skipI (r.2.ins.length-b)]++r.2.ins,r.2.bh⟩):=by unfold layF;rw [if_neg k1,if_neg k2,if_neg (by omega),if_pos k4,hb];rfl
  refine ahead2 ih _ k1 (by unfold wtP;rw [if_neg (by omega),if_pos (Or.inr k4)];simp) (hw e) e (one_at (Q:=fun a i=>alone i ([skipI (r.2.ins.length-b)].length-a-1+r.2.ins.length)=0) (alone_skip (by simp;omega))) (fun i hi=>by rw [List.mem_singleton] at hi;subst hi;exact Or.inr (Or.inr (Or.inr (Or.inl rfl))))
 have k3:p.kd=3:=by have:=hp.kd;omega
 have hc:=hp.smp.2 k3
 obtain ⟨bt,hbt⟩:=ih.nm p.tQ (hf.2.2 p.tQ (Or.inl ⟨k3,Or.inl rfl⟩))
 obtain ⟨bf,hbf⟩:=ih.nm p.el (hf.2.2 p.el (Or.inl ⟨k3,Or.inr rfl⟩))
 obtain ⟨t1,t2⟩:=ih.at_ _ _ hbt
 obtain ⟨f1,f2⟩:=ih.at_ _ _ hbf
 have e:layF p r.2=(0,⟨cmpF r.2.ins p.i bt bf,r.2.bh⟩):=by unfold layF;rw [if_neg k1,if_neg k2,if_pos k3,if_neg (by omega),hbt,hbf]
 obtain ⟨L,hL⟩:∃L,L=r.2.ins:=⟨_,rfl⟩
 have hw3:wtP p=3:=by unfold wtP;rw [if_pos k3]
 have h5:∀k,(skipI k).c=32∨(skipI k).c=84∨(skipI k).c=6∨(skipI k).c=5∨(skipI k).c=21∨(skipI k).c=37∨(skipI k).c=53∨(skipI k).c=69:=fun k=>Or.inr (Or.inr (Or.inr (Or.inl rfl)))
 have hi4:∀a b,(⟨p.i.c,a,b,p.i.k⟩:Ins).c=32∨(⟨p.i.c,a,b,p.i.k⟩:Ins).c=84∨(⟨p.i.c,a,b,p.i.k⟩:Ins).c=6∨(⟨p.i.c,a,b,p.i.k⟩:Ins).c=5∨(⟨p.i.c,a,b,p.i.k⟩:Ins).c=21∨(⟨p.i.c,a,b,p.i.k⟩:Ins).c=37∨(⟨p.i.c,a,b,p.i.k⟩:Ins).c=53∨(⟨p.i.c,a,b,p.i.k⟩:Ins).c=69:=fun a b=>by simp only;omega
 have e1:reachF L bf=if L.length-bf≤253 then (L.length-bf,L) else (0,skipI (L.length-bf)::L):=rfl
 rw [←hL] at e t2 f2 hpos hlen
 by_cases g1:L.length-bf≤253
 ·rw [if_pos g1] at e1
  have e2:reachF L bt=if L.length-bt≤253 then (L.length-bt,L) else (0,skipI (L.length-bt)::L):=rfl
  by_cases g2:L.length-bt≤253
  ·rw [if_pos g2] at e2
   have ec:cmpF L p.i bt bf=[⟨p.i.c,L.length-bt,L.length-bf,p.i.k⟩]++L:=by unfold cmpF;rw [e1];simp only;rw [e2];simp
   rw [ec,hL] at e
   refine ahead2 ih _ k1 (by rw [hw3];simp) (hw e) e (fun a i hi=>?_) (fun i hi=>?_)
   ·match a,hi with
    | 0,hi=>simp at hi;subst hi;exact alone_if4 hc (by simp [←hL]<;>omega) (by simp [←hL]<;>omega)
    | a+1,hi=>simp at hi
   ·rw [List.mem_singleton] at hi;subst hi;exact hi4 _ _
  ·rw [if_neg g2] at e2
   have ec:cmpF L p.i bt bf=[⟨p.i.c,0,L.length-bf+1,p.i.k⟩,skipI (L.length-bt)]++L:=by unfold cmpF;rw [e1];simp only;rw [e2];simp
   rw [ec,hL] at e
   refine ahead2 ih _ k1 (by rw [hw3];simp) (hw e) e (fun a i hi=>?_) (fun i hi=>?_)
   ·match a,hi with
    | 0,hi=>simp at hi;subst hi;exact alone_if4 hc (by simp [←hL]<;>omega) (by simp [←hL]<;>omega)
    | 1,hi=>simp at hi;subst hi;exact alone_skip (by simp [←hL]<;>omega)
    | a+2,hi=>simp at hi
   ·rcases List.mem_cons.1 hi with rfl|hi
    ·exact hi4 _ _
    ·rw [List.mem_singleton] at hi;subst hi;exact h5 _
 ·rw [if_neg g1] at e1
  have e2:reachF (skipI (L.length-bf)::L) bt=if L.length+1-bt≤253 then (L.length+1-bt,skipI (L.length-bf)::L) else (0,skipI (L.length+1-bt)::skipI (L.length-bf)::L):=rfl
  by_cases g2:L.length+1-bt≤253
  ·rw [if_pos g2] at e2
   have ec:cmpF L p.i bt bf=[⟨p.i.c,L.length+1-bt,0,p.i.k⟩,skipI (L.length-bf)]++L:=by unfold cmpF;rw [e1];simp only;rw [e2];simp
   rw [ec,hL] at e
   refine ahead2 ih _ k1 (by rw [hw3];simp) (hw e) e (fun a i hi=>?_) (fun i hi=>?_)
   ·match a,hi with
    | 0,hi=>simp at hi;subst hi;exact alone_if4 hc (by simp [←hL]<;>omega) (by simp [←hL]<;>omega)
    | 1,hi=>simp at hi;subst hi;exact alone_skip (by simp [←hL]<;>omega)
    | a+2,hi=>simp at hi
   ·rcases List.mem_cons.1 hi with rfl|hi
    ·exact hi4 _ _
    ·rw [List.mem_singleton] at hi;subst hi;exact h5 _
  ·rw [if_neg g2] at e2
   have ec:cmpF L p.i bt bf=[⟨p.i.c,0,1,p.i.k⟩,skipI (L.length+1-bt),skipI (L.length-bf)]++L:=by unfold cmpF;rw [e1];simp only;rw [e2];simp
   rw [ec,hL] at e
   refine ahead2 ih _ k1 (by rw [hw3];simp) (hw e) e (fun a i hi=>?_) (fun i hi=>?_)
   ·match a,hi with
    | 0,hi=>simp at hi;subst hi;exact alone_if4 hc (by simp [←hL]<;>omega) (by simp [←hL]<;>omega)
    | 1,hi=>simp at hi;subst hi;exact alone_skip (by simp [←hL]<;>omega)
    | 2,hi=>simp at hi;subst hi;exact alone_skip (by simp [←hL]<;>omega)
    | a+3,hi=>simp at hi
   ·rcases List.mem_cons.1 hi with rfl|hi
    ·exact hi4 _ _
    ·rcases List.mem_cons.1 hi with rfl|hi
     ·exact h5 _
     ·rw [List.mem_singleton] at hi;subst hi;exact h5 _
theorem make_or:∀l:List PtM,Fwd l→(∀p∈l,Fin1 p)→LastR l→Cod l (makeF l)∨(makeF l).1=205
 | [],_,_,h=>h.elim
 | p::t,hf,hs,hl=>by
  rcases hl with ⟨rfl,k2,k6⟩|hl
  ·refine Or.inl (make_cod [p] hf hs (Or.inl ⟨rfl,k2,k6⟩) ?_)
   show wtP p+0≤4096
   unfold wtP;split
   ·omega
   ·split<;>omega
  rw [makeF_cons]
  rcases make_or t hf.1 (fun q hq=>hs q (List.mem_cons_of_mem _ hq)) hl with ih|ih
  ·have hp:=hs p List.mem_cons_self
   have h0:=lay_zero ih hf hp
   by_cases h4:(layF p (makeF t).2).2.ins.length≤4096
   ·exact Or.inl (cod_step ih hf hp h4)
   ·refine Or.inr ?_
    unfold stepF
    rw [if_neg (by rw [ih.ok];simp),if_neg (by rw [h0];simp),if_pos (by omega)]
  ·refine Or.inr ?_
   unfold stepF
   rw [if_pos (by rw [ih];decide)];exact ih
structure MadeR (l:List PtM):Prop where
 ok:(makeF l).1=0
 good:Good (makeF l).2.ins
 ins:∀i∈(makeF l).2.ins,i.c=32∨i.c=84∨i.c=6∨i.c=5∨i.c=21∨i.c=37∨i.c=53∨i.c=69
 says:∀W:Nat→Nat,(runN W (makeF l).2.ins).2=valL W l 0
theorem made_or {l:List PtM} (hf:Fwd l) (hs:∀p∈l,Fin1 p) (hl:LastR l):MadeR l∨(makeF l).1=205:=by
 rcases make_or l hf hs hl with h|h
 ·have hlen:=make_len l h.ok
  refine Or.inl ⟨h.ok,⟨h.pos,hlen,all_at h.all,h.ends,fun a i hi ht=>?_⟩,h.smp,fun W=>?_⟩
  ·have hs:=h.smp i (List.mem_of_getElem? hi)
   unfold takes at ht
   simp only [Bool.or_eq_true,beq_iff_eq] at ht
   omega
  ·rw [run_code W h.smp]
   exact (make_mean W l (fun p hp=>(hs p hp).smp) h.ok).all 0
 ·exact Or.inr h
end Go.Proofs.YtcnebdjhhfnmoaaGreatDoor.Lo
namespace Go.Proofs.YtcnebdjhhfnmoaaGreatDoor.Co
open Go.Proofs.YtcnebdjhhfnmoaaGreatDoor.Ju Go.Proofs.YtcnebdjhhfnmoaaGreatDoor.Ir Go.Proofs.YtcnebdjhhfnmoaaGreatDoor.Me Go.Proofs.YtcnebdjhhfnmoaaGreatDoor.Lo
def ldB (p:PtM):Bool:=decide (p.kd=2∧p.i.c=32)
theorem ldB_true {p:PtM}:ldB p=true↔p.kd=2∧p.i.c=32:=decide_eq_true_iff
def nxtP (last p:PtM):PtM:=if p.kd=2∨p.kd=1 then p else last
def againB (p last:PtM):Bool:=ldB p&&ldB last&&decide (p.i.k=last.i.k)
theorem again_true {p last:PtM}:againB p last=true↔(p.kd=2∧p.i.c=32)∧(last.kd=2∧last.i.c=32)∧p.i.k=last.i.k:=by
 unfold againB
 rw [Bool.and_eq_true,Bool.and_eq_true,ldB_true,ldB_true,decide_eq_true_iff,and_assoc]
def peepS:PtM→List PtM→List PtM
 | _,[]=>[]
 | last,p::t=>if againB p last=true then peepS last t else p::peepS (nxtP last p) t
theorem peep_yes {last p:PtM} (t:List PtM) (h:againB p last=true):peepS last (p::t)=peepS last t:=by conv=>lhs;unfold peepS;rw [if_pos h]
theorem peep_no {last p:PtM} (t:List PtM) (h:¬againB p last=true):peepS last (p::t)=p::peepS (nxtP last p) t:=by conv=>lhs;unfold peepS;rw [if_neg h]
theorem peep_val (W:Nat→Nat):∀(l:List PtM) (last:PtM),(∀A,(last.kd=2∧last.i.c=32→A=W last.i.k)→valL W (peepS last l) A=valL W l A)∧∀n A,valL W (aft n (peepS last l)) A=valL W (aft n l) A
 | [],_=>⟨fun _ _=>rfl,fun _ _=>rfl⟩
 | p::t,last=>by
  by_cases hb:againB p last=true
  ·rw [peep_yes t hb]
   obtain ⟨⟨k2,c32⟩,hl,ek⟩:=again_true.1 hb
   have ih:=peep_val W t last
   refine ⟨fun A hA=>?_,fun n A=>?_⟩
   ·rw [ih.1 A hA,valL_cons,if_neg (by omega),if_neg (by omega),if_pos k2,if_neg (by omega),if_pos c32,ek,←hA hl]
   ·rw [ih.2 n A,aft_no (show p.kd≠1 by omega)]
  ·rw [peep_no t hb]
   have ih:=peep_val W t (nxtP last p)
   have ha:∀A,(last.kd=2∧last.i.c=32→A=W last.i.k)→valL W (p::peepS (nxtP last p) t) A=valL W (p::t) A:=fun A hA=>by
    rw [valL_cons,valL_cons]
    by_cases k4:p.kd=4
    ·rw [if_pos k4,if_pos k4];exact ih.2 _ A
    rw [if_neg k4,if_neg k4]
    by_cases k3:p.kd=3
    ·rw [if_pos k3,if_pos k3];exact ih.2 _ A
    rw [if_neg k3,if_neg k3]
    by_cases k2:p.kd=2
    ·rw [if_pos k2,if_pos k2]
     have hn:nxtP last p=p:=if_pos (Or.inl k2)
     by_cases k6:p.i.c%8=6
     ·rw [if_pos k6,if_pos k6]
     rw [if_neg k6,if_neg k6]
     by_cases c32:p.i.c=32
     ·rw [if_pos c32,if_pos c32];exact ih.1 _ (fun _=>by rw [hn])
     ·rw [if_neg c32,if_neg c32];exact ih.1 _ (fun h=>by rw [hn] at h;exact absurd h.2 c32)
    ·rw [if_neg k2,if_neg k2]
     by_cases k1:p.kd=1
     ·have hn:nxtP last p=p:=if_pos (Or.inr k1)
      exact ih.1 A (fun h=>by rw [hn] at h;omega)
     ·have hn:nxtP last p=last:=if_neg (by omega)
      exact ih.1 A (fun h=>by rw [hn] at h ⊢;exact hA h)
   refine ⟨ha,fun n A=>?_⟩
   by_cases e:p.kd=1∧p.tQ=n
   ·rw [aft_here e.1 e.2,aft_here e.1 e.2]
    have hn:nxtP last p=p:=if_pos (Or.inr e.1)
    rw [val_here e.1,val_here e.1]
    exact ih.1 A (fun h=>by rw [hn] at h;omega)
   ·rw [aft_other e,aft_other e];exact ih.2 n A
theorem peep_mem:∀(l:List PtM) (last:PtM),∀q∈peepS last l,q∈l
 | [],_,_,h=>h
 | p::t,last,q,h=>by
  by_cases hb:againB p last=true
  ·rw [peep_yes t hb] at h
   exact List.mem_cons_of_mem _ (peep_mem t last q h)
  ·rw [peep_no t hb] at h
   rcases List.mem_cons.1 h with rfl|h
   ·exact List.mem_cons_self
   ·exact List.mem_cons_of_mem _ (peep_mem t _ q h)
theorem peep_len:∀(l:List PtM) (last:PtM),(peepS last l).length≤l.length
 | [],_=>Nat.le_refl _
 | p::t,last=>by
  by_cases hb:againB p last=true
  ·rw [peep_yes t hb];have:=peep_len t last;simp;omega
  ·rw [peep_no t hb];have:=peep_len t (nxtP last p);simp;omega
theorem peep_has (n:Int):∀(l:List PtM) (last:PtM),HasN n (peepS last l)↔HasN n l
 | [],_=>Iff.rfl
 | p::t,last=>by
  by_cases hb:againB p last=true
  ·rw [peep_yes t hb,peep_has n t last,has_cons]
   have:=(again_true.1 hb).1.1
   exact ⟨Or.inr,fun h=>h.elim (fun a=>absurd a.1 (by omega)) id⟩
  ·rw [peep_no t hb,has_cons,has_cons,peep_has n t _]
theorem peep_fwd:∀(l:List PtM) (last:PtM),Fwd l→Fwd (peepS last l)
 | [],_,_=>True.intro
 | p::t,last,h=>by
  obtain ⟨h1,h2,h3⟩:=h
  by_cases hb:againB p last=true
  ·rw [peep_yes t hb];exact peep_fwd t last h1
  ·rw [peep_no t hb]
   exact ⟨peep_fwd t _ h1,fun k=>by rw [peep_has];exact h2 k,fun n k=>(peep_has n t _).2 (h3 n k)⟩
theorem peep_last:∀(l:List PtM) (last:PtM),LastR l→LastR (peepS last l)
 | [],_,h=>h
 | p::t,last,h=>by
  by_cases hb:againB p last=true
  ·rw [peep_yes t hb]
   rcases h with ⟨_,_,h6⟩|h
   ·have:=(again_true.1 hb).1.2
    omega
   ·exact peep_last t last h
  ·rw [peep_no t hb]
   rcases h with ⟨rfl,h⟩|h
   ·exact Or.inl ⟨rfl,h⟩
   ·exact Or.inr (peep_last t _ h)
theorem peep_head:∀(l:List PtM) (last q:PtM),(peepS last l)[0]?=some q→againB q last=false
 | [],_,_,h=>by cases h
 | p::t,last,q,h=>by
  by_cases hb:againB p last=true
  ·rw [peep_yes t hb] at h;exact peep_head t last q h
  ·rw [peep_no t hb] at h
   cases h
   exact Bool.eq_false_iff.2 hb
theorem peep_next:∀(l:List PtM) (last:PtM) (i:Nat) (a b:PtM),(peepS last l)[i]?=some a→(peepS last l)[i+1]?=some b→ldB b=true→a≠b
 | [],_,_,_,_,h,_,_=>by simp [peepS] at h
 | p::t,last,i,a,b,h1,h2,hb2=>by
  by_cases hb:againB p last=true
  ·rw [peep_yes t hb] at h1 h2;exact peep_next t last i a b h1 h2 hb2
  ·rw [peep_no t hb] at h1 h2
   cases i with
   | zero=>
    cases h1
    intro e
    subst e
    have h3:=peep_head t (nxtP last p) p h2
    have hn:nxtP last p=p:=if_pos (Or.inl (ldB_true.1 hb2).1)
    rw [hn] at h3
    unfold againB at h3
    rw [hb2] at h3
    simp at h3
   | succ i=>exact peep_next t _ i a b h1 h2 hb2
def dblL (l:List PtM):List PtM:=l.flatMap fun q=>if ldB q=true then [q,q] else [q]
theorem peep_dbl:∀(l:List PtM) (last:PtM),peepS last (dblL l)=peepS last l
 | [],_=>rfl
 | p::t,last=>by
  have ih:=peep_dbl t
  show peepS last ((if ldB p=true then [p,p] else [p])++dblL t)=_
  by_cases hd:ldB p=true
  ·rw [if_pos hd]
   show peepS last (p::p::dblL t)=_
   by_cases hb:againB p last=true
   ·rw [peep_yes _ hb,peep_yes _ hb,peep_yes _ hb,ih]
   ·have hn:nxtP last p=p:=if_pos (Or.inl (ldB_true.1 hd).1)
    have hs:againB p p=true:=by unfold againB;rw [hd];simp
    rw [peep_no _ hb,peep_no _ hb,hn,peep_yes _ hs,ih]
  ·rw [if_neg hd]
   show peepS last (p::dblL t)=_
   by_cases hb:againB p last=true
   ·rw [peep_yes _ hb,peep_yes _ hb,ih]
   ·rw [peep_no _ hb,peep_no _ hb,ih]
theorem dbl_snoc (l:List PtM) (k:Nat) (p:PtM) (h:l[k]?=some p):dblL (l.take (k+1))=dblL (l.take k)++(if ldB p=true then [p,p] else [p]):=by
 rw [List.take_add_one,h]
 unfold dblL
 rw [List.flatMap_append]
 simp
def peepT:List PtM→List PtM×PtM:=fun l=>l.foldl (fun s p=>if againB p s.2=true then s else (s.1++[p],nxtP s.2 p)) ([],zPt)
theorem peepT_snoc (l:List PtM) (p:PtM):peepT (l++[p])=if againB p (peepT l).2=true then peepT l else ((peepT l).1++[p],nxtP (peepT l).2 p):=by
 unfold peepT;rw [List.foldl_append];rfl
theorem peepT_from:∀(l a:List PtM) (last:PtM),(l.foldl (fun s p=>if againB p s.2=true then s else (s.1++[p],nxtP s.2 p)) (a,last)).1=a++peepS last l
 | [],a,last=>by simp [peepS]
 | p::t,a,last=>by
  rw [List.foldl_cons]
  by_cases hb:againB p last=true
  ·rw [if_pos hb,peep_yes t hb];exact peepT_from t a last
  ·rw [if_neg hb,peep_no t hb,peepT_from t,List.append_assoc];rfl
def peepF (l:List PtM):List PtM:=peepS zPt l
theorem peepT_fst (l:List PtM):(peepT l).1=peepF l:=by
 unfold peepT peepF
 rw [peepT_from];rfl
theorem peepF_val (W:Nat→Nat) (l:List PtM) (A:Nat):valL W (peepF l) A=valL W l A:=(peep_val W l zPt).1 A (fun h=>by have:=h.1;simp [zPt] at this)
end Go.Proofs.YtcnebdjhhfnmoaaGreatDoor.Co
