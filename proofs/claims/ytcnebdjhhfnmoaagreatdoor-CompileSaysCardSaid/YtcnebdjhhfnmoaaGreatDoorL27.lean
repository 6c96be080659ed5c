/- What the laws are handed: instructions, small instructions; whatever they are, long or short. -/
import Derived.Test.YtcnebdjhhfnmoaaGreatDoorL03
import Derived.Deep.Slices
import Derived.ChangeArms
import Derived.ChangeSlices
import Derived.DataReads
import Derived.ProofKit
import Derived.ChangeOld
import Derived.SliceStrings
import Derived.OpenShut
import Derived.Test.YtcnebdjhhfnmoaaGreatDoorL16
import Derived.Test.YtcnebdjhhfnmoaaGreatDoorL13
import Derived.Test.YtcnebdjhhfnmoaaGreatDoorL12
import Derived.Test.YtcnebdjhhfnmoaaGreatDoorL26
import Derived.Test.YtcnebdjhhfnmoaaGreatDoorL24
set_option maxHeartbeats 32000000
set_option maxRecDepth 100000
namespace Go.Proofs.YtcnebdjhhfnmoaaGreatDoor
open Go.ChangeShapes Go.WideShapes Go.ChangeAt Go.RowKit Go.Deep
section
variable {H:Type} {enc:TypeId×Value→H} {w:World} {base:Nat} {spare:Nat→Bool} {held:Bool} {fuel:Nat} {x:DataW H×List MemPlace} {A:Option Addr} {len cap:Nat}
theorem add_at (b o j:Nat):(⟨b,o,none⟩:Addr).add j=⟨b,o+j,none⟩:=by unfold Addr.add;split<;>simp_all
end
end Go.Proofs.YtcnebdjhhfnmoaaGreatDoor
namespace Go.Proofs.YtcnebdjhhfnmoaaGreatDoor
open Go.ChangeShapes Go.WideShapes Go.ChangeAt Go.RowKit Go.Deep
theorem rec_at:∀(l:List (List Nat))(k j:Nat),j<9→(l.flatMap Rec.recL)[k*9+j]?=(l[k]?).bind (fun x=>(Rec.recL x)[j]?)
 | [],k,j,_=>by simp
 | x::l,k,j,hj=>by
  rw [List.flatMap_cons]
  cases k with
  | zero=>rw [List.getElem?_append_left (by simp [Rec.recL];omega)];simp
  | succ k=>
   rw [List.getElem?_append_right (by simp [Rec.recL];omega),show (Rec.recL x).length=9 from rfl,show (k+1)*9+j-9=k*9+j from by omega,rec_at l k j hj]
   simp
section
variable {H:Type} {enc:TypeId×Value→H} {w:World} {base:Nat} {spare:Nat→Bool} {held:Bool} {fuel:Nat} {x:DataW H×List MemPlace} {A:Option Addr} {len cap:Nat}
theorem rec_cells {cs:List Value}(hl:cs.length=9)(hf:DataW.trod enc Tryz.prog w base spare held fuel 60 cs=some x):∃bs,Rec.IsRec bs∧cs=Rec.recL bs:=by
 have h8:Tryz.prog.cellsOf 22=1:=by kernel_rfl
 have h64:Tryz.prog.cellsOf 57=1:=by kernel_rfl
 have h6:Tryz.prog.cellsOf 58=6:=by kernel_rfl
 match cs,hl with
 | [c0,c1,c2,c3,c4,c5,c6,c7,c8],_=>
  obtain ⟨xs,n,_,_,_,hlen,hg⟩:=DataW.trod_struct Tryz.underlying60 hf
  match xs,hlen with
  | [y0,y1,y2,y3],_=>
   obtain ⟨n0,rfl,g0⟩:=Rec.u32_of ⟨_,Rec.one_field (hg 0 _ rfl) rfl rfl h8 rfl⟩
   obtain ⟨n1,rfl,g1⟩:=Rec.u32_of ⟨_,Rec.one_field (hg 1 _ rfl) rfl rfl h8 rfl⟩
   obtain ⟨n2,rfl,g2⟩:=Rec.u64_of ⟨_,Rec.one_field (hg 2 _ rfl) rfl rfl h64 rfl⟩
   have h3:DataW.trod enc Tryz.prog w base spare held n 58 [c3,c4,c5,c6,c7,c8]=some y3:=by
    have:=hg 3 _ rfl
    exact this
   obtain ⟨zs,m,_,_,_,hzl,hz⟩:=DataW.trod_array Tryz.underlying58 h3
   rw [h64] at hz
   obtain ⟨n3,rfl,g3⟩:=Rec.u64_of (Rec.some_field (i:=0) (by omega) (hz 0 (by omega)))
   obtain ⟨n4,rfl,g4⟩:=Rec.u64_of (Rec.some_field (i:=1) (by omega) (hz 1 (by omega)))
   obtain ⟨n5,rfl,g5⟩:=Rec.u64_of (Rec.some_field (i:=2) (by omega) (hz 2 (by omega)))
   obtain ⟨n6,rfl,g6⟩:=Rec.u64_of (Rec.some_field (i:=3) (by omega) (hz 3 (by omega)))
   obtain ⟨n7,rfl,g7⟩:=Rec.u64_of (Rec.some_field (i:=4) (by omega) (hz 4 (by omega)))
   obtain ⟨n8,rfl,g8⟩:=Rec.u64_of (Rec.some_field (i:=5) (by omega) (hz 5 (by omega)))
   obtain ⟨bs,hl,hb,e0,e1,e2,e3,e4,e5,e6,e7,e8⟩:=Rec.record_bytes n0 n1 n2 n3 n4 n5 n6 n7 n8 g0 g1 g2 g3 g4 g5 g6 g7 g8
   exact ⟨bs,⟨hl,Rec.small8_of hb⟩,by rw [Rec.recL,e0,e1,e2,e3,e4,e5,e6,e7,e8]⟩
end
end Go.Proofs.YtcnebdjhhfnmoaaGreatDoor
namespace Go.Proofs.YtcnebdjhhfnmoaaGreatDoor.Lo
open Go.Proofs.YtcnebdjhhfnmoaaGreatDoor.Ju
theorem sml_i {a b c d:Nat}(h1:a<65536)(h2:b<256)(h3:c<256)(h4:d<4294967296):Ins.ok ⟨a,b,c,d⟩:=⟨h1,h2,h3,h4⟩
theorem skip_okI {n:Nat}(h:n<4294967296):(skipI n).ok:=sml_i (by omega) (by omega) (by omega) h
theorem reach_ok {l:List Ins}{b:Nat}(hl:∀i∈l,i.ok)(hn:l.length≤5000):∀i∈(reachF l b).2,i.ok:=by
 unfold reachF
 split
 ·exact hl
 ·intro i hi
  rcases List.mem_cons.1 hi with rfl|hi
  ·exact skip_okI (by omega)
  ·exact hl i hi
theorem lay_oks {p:PtM}{c:CdM}(hp:p.ok)(hc:∀i∈c.ins,i.ok)(hn:c.ins.length≤4096):∀i∈(layF p c).2.ins,i.ok:=by
 unfold layF
 split
 ·split<;>exact hc
 ·split
  ·split
   ·exact hc
   ·intro i hi
    rcases List.mem_cons.1 hi with rfl|hi
    ·exact hp.i
    ·exact hc i hi
  ·split
   ·split
    ·exact hc
    ·split
     ·intro i hi
      rename_i bt bf _ _
      have h1:=reach_len c.ins bf
      have h2:=reach_len (reachF c.ins bf).2 bt
      rcases List.mem_cons.1 hi with rfl|hi
      ·exact sml_i hp.i.1 (by omega) (by omega) hp.i.2.2.2
      ·exact reach_ok (reach_ok hc (by omega)) (by omega) i hi
     ·exact hc
   ·split
    ·split
     ·intro i hi
      rcases List.mem_cons.1 hi with rfl|hi
      ·exact skip_okI (by omega)
      ·exact hc i hi
     ·exact hc
    ·exact hc
theorem make_oks:∀l:List PtM,(∀q∈l,q.ok)→(makeF l).1=0→∀i∈(makeF l).2.ins,i.ok
 | [],_,_=>fun i hi=>by simp [makeF] at hi
 | p::t,hl,h=>by
  rw [makeF_cons] at h ⊢
  obtain ⟨h0,_,h2⟩:=step_zero h
  rw [h2]
  exact lay_oks (hl p List.mem_cons_self) (make_oks t (fun q hq=>hl q (List.mem_cons_of_mem _ hq)) h0) (make_len t h0)
end Go.Proofs.YtcnebdjhhfnmoaaGreatDoor.Lo
namespace Go.Proofs.YtcnebdjhhfnmoaaGreatDoor.Co
open Go.Proofs.YtcnebdjhhfnmoaaGreatDoor.Ju Go.Proofs.YtcnebdjhhfnmoaaGreatDoor.Ir Go.Proofs.YtcnebdjhhfnmoaaGreatDoor.Me Go.Proofs.YtcnebdjhhfnmoaaGreatDoor.Lo
structure LeC (c d:CdM):Prop where
 len:c.ins.length≤d.ins.length
 no:∀n,lk n c.bh=none↔lk n d.bh=none
 at_:∀n a b,lk n c.bh=some a→lk n d.bh=some b→a≤c.ins.length∧b≤d.ins.length∧c.ins.length-a≤d.ins.length-b
theorem LeC.some {c d:CdM}(h:LeC c d){n:Int}{b:Nat}(hb:lk n d.bh=some b):∃a,lk n c.bh=some a:=by
 cases e:lk n c.bh with
 | none=>rw [(h.no n).1 e] at hb;cases hb
 | some a=>exact ⟨a,rfl⟩
theorem LeC.ahead {c d:CdM}(h:LeC c d)(x y:List Ins)(hx:x.length≤y.length):LeC ⟨x++c.ins,c.bh⟩ ⟨y++d.ins,d.bh⟩:=by
 refine ⟨by have:=h.len;simp only [List.length_append];omega,h.no,fun n a b ha hb=>?_⟩
 have h1:=h.at_ n a b ha hb
 have:=h.len
 simp only [List.length_append];omega
theorem cmp_split (L:List Ins)(i:Ins)(bt bf:Nat)(ht:bt≤L.length)(_:bf≤L.length):∃x,cmpF L i bt bf=x++L∧x.length=1+(if L.length-bf≤253 then 0 else 1)+(if L.length-bt+(if L.length-bf≤253 then 0 else 1)≤253 then 0 else 1):=by
 have e1:reachF L bf=if L.length-bf≤253 then (L.length-bf,L) else (0,skipI (L.length-bf)::L):=rfl
 by_cases g1:L.length-bf≤253
 ·rw [if_pos g1] at e1
  have e2:reachF L bt=if L.length-bt≤253 then (L.length-bt,L) else (0,skipI (L.length-bt)::L):=rfl
  by_cases g2:L.length-bt≤253
  ·rw [if_pos g2] at e2
   refine ⟨[⟨i.c,L.length-bt,L.length-bf,i.k⟩],by unfold cmpF;rw [e1];simp only;rw [e2];simp,?_⟩
   rw [if_pos g1,if_pos (by omega)];rfl
  ·rw [if_neg g2] at e2
   refine ⟨[⟨i.c,0,L.length-bf+1,i.k⟩,skipI (L.length-bt)],by unfold cmpF;rw [e1];simp only;rw [e2];simp,?_⟩
   rw [if_pos g1,if_neg (by omega)];rfl
 ·rw [if_neg g1] at e1
  have e2:reachF (skipI (L.length-bf)::L) bt=if L.length+1-bt≤253 then (L.length+1-bt,skipI (L.length-bf)::L) else (0,skipI (L.length+1-bt)::skipI (L.length-bf)::L):=rfl
  by_cases g2:L.length+1-bt≤253
  ·rw [if_pos g2] at e2
   refine ⟨[⟨i.c,L.length+1-bt,0,i.k⟩,skipI (L.length-bf)],by unfold cmpF;rw [e1];simp only;rw [e2];simp,?_⟩
   rw [if_neg g1,if_pos (by omega)];rfl
  ·rw [if_neg g2] at e2
   refine ⟨[⟨i.c,0,1,i.k⟩,skipI (L.length+1-bt),skipI (L.length-bf)],by unfold cmpF;rw [e1];simp only;rw [e2];simp,?_⟩
   rw [if_neg g1,if_neg (by omega)];rfl
theorem lay_le {p:PtM}{c d:CdM}(h:LeC c d)(h0:(layF p d).1=0):(layF p c).1=0∧LeC (layF p c).2 (layF p d).2:=by
 unfold layF at h0 ⊢
 by_cases k1:p.kd=1
 ·rw [if_pos k1] at h0 ⊢
  rw [if_pos k1]
  cases hd:lk p.tQ d.bh with
  | some v=>rw [hd] at h0;cases h0
  | none=>
   rw [(h.no p.tQ).2 hd]
   refine ⟨rfl,h.len,fun n=>?_,fun n a b ha hb=>?_⟩
   ·simp only [lk_cons]
    by_cases e:p.tQ=n
    ·simp [e]
    ·rw [if_neg e,if_neg e];exact h.no n
   ·simp only [lk_cons] at ha hb
    by_cases e:p.tQ=n
    ·rw [if_pos e] at ha hb
     cases ha;cases hb
     exact ⟨Nat.le_refl _,Nat.le_refl _,by simp⟩
    ·rw [if_neg e] at ha hb;exact h.at_ n a b ha hb
 rw [if_neg k1] at h0 ⊢
 rw [if_neg k1]
 by_cases k2:p.kd=2
 ·rw [if_pos k2] at h0 ⊢
  rw [if_pos k2]
  by_cases c5:p.i.c%8=5
  ·rw [if_pos c5] at h0;cases h0
  ·rw [if_neg c5,if_neg c5]
   exact ⟨rfl,h.ahead [p.i] [p.i] (Nat.le_refl _)⟩
 rw [if_neg k2] at h0 ⊢
 rw [if_neg k2]
 by_cases k3:p.kd=3
 ·rw [if_pos k3] at h0 ⊢
  rw [if_pos k3]
  by_cases c5:p.i.c%8≠5∨p.i.c=5
  ·rw [if_pos c5] at h0;cases h0
  ·rw [if_neg c5] at h0 ⊢
   rw [if_neg c5]
   cases ht:lk p.tQ d.bh with
   | none=>rw [ht] at h0;simp at h0
   | some bt=>
    cases hf:lk p.el d.bh with
    | none=>rw [ht,hf] at h0;simp at h0
    | some bf=>
     obtain ⟨at_,hat⟩:=h.some ht
     obtain ⟨af,haf⟩:=h.some hf
     rw [hat,haf]
     obtain ⟨t1,t2,t3⟩:=h.at_ _ _ _ hat ht
     obtain ⟨f1,f2,f3⟩:=h.at_ _ _ _ haf hf
     obtain ⟨x,ex,lx⟩:=cmp_split c.ins p.i at_ af t1 f1
     obtain ⟨y,ey,ly⟩:=cmp_split d.ins p.i bt bf t2 f2
     show (0:Nat)=0∧LeC ⟨cmpF c.ins p.i at_ af,c.bh⟩ ⟨cmpF d.ins p.i bt bf,d.bh⟩
     rw [ex,ey]
     refine ⟨rfl,h.ahead x y ?_⟩
     rw [lx,ly]
     repeat' split
     all_goals omega
 rw [if_neg k3] at h0 ⊢
 rw [if_neg k3]
 by_cases k4:p.kd=4
 ·rw [if_pos k4] at h0 ⊢
  rw [if_pos k4]
  cases ht:lk p.tQ d.bh with
  | none=>rw [ht] at h0;cases h0
  | some bt=>
   obtain ⟨a,ha⟩:=h.some ht
   rw [ha]
   exact ⟨rfl,h.ahead [_] [_] (Nat.le_refl _)⟩
 ·rw [if_neg k4] at h0;cases h0
theorem lay_plain_le {p:PtM}{c d:CdM}(h:LeC c d)(k2:p.kd=2)(c32:p.i.c=32):LeC c (layF p d).2:=by
 unfold layF
 rw [if_neg (by omega),if_pos k2,if_neg (by omega)]
 exact h.ahead [] [p.i] (Nat.zero_le _)
theorem step_ok_of {p:PtM}{r:Nat×CdM}(h0:r.1=0)(h1:(layF p r.2).1=0)(h2:(layF p r.2).2.ins.length≤4096):stepF p r=layF p r.2:=by
 unfold stepF
 rw [if_neg (by rw [h0];simp),if_neg (by rw [h1];simp),if_neg (by omega)]
theorem peep_make:∀(l:List PtM)(last:PtM),(makeF l).1=0→(makeF (peepS last l)).1=0∧LeC (makeF (peepS last l)).2 (makeF l).2
 | [],_,_=>⟨rfl,Nat.le_refl _,fun _=>Iff.rfl,fun n a b ha _=>by simp [peepS,makeF,lk] at ha⟩
 | p::t,last,h=>by
  have hlen:=make_len _ h
  rw [makeF_cons] at h hlen ⊢
  obtain ⟨h0,h1,h2⟩:=step_zero h
  rw [h2] at hlen ⊢
  by_cases hb:againB p last=true
  ·rw [peep_yes t hb]
   obtain ⟨i1,i2⟩:=peep_make t last h0
   have:=(again_true.1 hb).1
   exact ⟨i1,lay_plain_le i2 this.1 this.2⟩
  ·rw [peep_no t hb,makeF_cons]
   obtain ⟨i1,i2⟩:=peep_make t (nxtP last p) h0
   obtain ⟨j1,j2⟩:=lay_le i2 h1
   rw [step_ok_of i1 j1 (by have:=j2.len;omega)]
   exact ⟨j1,j2⟩
def leastF (l:List PtM):Nat×List Ins:=
 if (makeF (peepF l)).1≠0∨(makeF (peepF (tidyF l))).1=0∧(makeF (peepF (tidyF l))).2.ins.length≤(makeF (peepF l)).2.ins.length then
  ((makeF (peepF (tidyF l))).1,if (makeF (peepF (tidyF l))).1=0 then (makeF (peepF (tidyF l))).2.ins else [])
 else (0,(makeF (peepF l)).2.ins)
structure Way (l:List PtM):Prop where
 fwd:Fwd l
 fin:∀p∈l,Fin1 p
 last:LastR l
theorem Way.peep {l:List PtM}(h:Way l):Way (peepF l):=⟨peep_fwd l _ h.fwd,fun p hp=>h.fin p (peep_mem l _ p hp),peep_last l _ h.last⟩
theorem Way.tidy {l:List PtM}(h:Way l):Way (tidyF l):=by
 obtain ⟨_,t2,t3⟩:=tidy_keep _ _ (Nat.lt_succ_self _) h.fwd h.fin h.last
 exact ⟨(tidy_tidied _ _ (Nat.lt_succ_self _) h.fwd).fwd,t2,t3⟩
theorem Way.made {l:List PtM}(h:Way l):MadeR l∨(makeF l).1=205:=made_or h.fwd h.fin h.last
theorem tidyF_val (W:Nat→Nat){l:List PtM}(h:Fwd l)(A:Nat):valL W (tidyF l) A=valL W l A:=tidy_val W _ _ (Nat.lt_succ_self _) h A
structure LeastR (l:List PtM):Prop where
 ok:(leastF l).1=0
 good:Good (leastF l).2
 oks:(∀q∈l,q.ok)→∀i∈(leastF l).2,i.ok
 len:(leastF l).2.length≤4096
 says:∀W:Nat→Nat,(runN W (leastF l).2).2=valL W l 0
theorem least_of {l m:List PtM}(hm:MadeR m)(hs:∀q∈m,(∀q∈l,q.ok)→q.ok)(hv:∀W,valL W m 0=valL W l 0)(e:leastF l=(0,(makeF m).2.ins)):LeastR l:=by
 refine ⟨by rw [e],by rw [e];exact hm.good,fun ho=>by rw [e];exact make_oks m (fun q hq=>hs q hq ho) hm.ok,by rw [e];exact make_len m hm.ok,fun W=>by rw [e];exact (hm.says W).trans (hv W)⟩
theorem peepF_oks {l:List PtM}(h:∀q∈l,q.ok):∀q∈peepF l,q.ok:=fun q hq=>h q (peep_mem l _ q hq)
theorem least_or {l:List PtM}(h:Way l):(LeastR l∧((makeF l).1=0→(leastF l).2.length≤(makeF l).2.ins.length))∨((leastF l).1=205∧(leastF l).2=[]∧(makeF l).1=205):=by
 have hv2:∀W,valL W (peepF (tidyF l)) 0=valL W l 0:=fun W=>by rw [peepF_val,tidyF_val W h.fwd]
 have hv1:∀W,valL W (peepF l) 0=valL W l 0:=fun W=>peepF_val W l 0
 have ho2:∀q∈peepF (tidyF l),(∀q∈l,q.ok)→q.ok:=fun q hq ho=>peepF_oks (tidyF_oks ho) q hq
 have ho1:∀q∈peepF l,(∀q∈l,q.ok)→q.ok:=fun q hq ho=>peepF_oks ho q hq
 have hle:(makeF l).1=0→(makeF (peepF l)).1=0∧(makeF (peepF l)).2.ins.length≤(makeF l).2.ins.length:=fun h0=>by
  obtain ⟨a,b⟩:=peep_make l zPt h0
  exact ⟨a,b.len⟩
 have hpl:(makeF l).1=0∨(makeF l).1=205:=h.made.imp (fun m=>m.ok) id
 rcases h.peep.made with m1|m1
 ·left
  by_cases g:(makeF (peepF (tidyF l))).1=0∧(makeF (peepF (tidyF l))).2.ins.length≤(makeF (peepF l)).2.ins.length
  ·have m2:MadeR (peepF (tidyF l)):=by
    rcases h.tidy.peep.made with m|m
    ·exact m
    ·rw [m] at g;exact absurd g.1 (by decide)
   have e:leastF l=(0,(makeF (peepF (tidyF l))).2.ins):=by unfold leastF;rw [if_pos (Or.inr g),if_pos g.1,g.1]
   exact ⟨least_of m2 ho2 hv2 e,fun h0=>by rw [e];have:=hle h0;show (makeF (peepF (tidyF l))).2.ins.length≤_;omega⟩
  ·have e:leastF l=(0,(makeF (peepF l)).2.ins):=by unfold leastF;rw [if_neg (by rintro (a|a);exact a m1.ok;exact g a)]
   exact ⟨least_of m1 ho1 hv1 e,fun h0=>by rw [e];exact (hle h0).2⟩
 ·have n1:(makeF (peepF l)).1≠0:=by rw [m1];decide
  have n0:(makeF l).1≠0:=fun a=>n1 (hle a).1
  have e:leastF l=((makeF (peepF (tidyF l))).1,if (makeF (peepF (tidyF l))).1=0 then (makeF (peepF (tidyF l))).2.ins else []):=by unfold leastF;rw [if_pos (Or.inl n1)]
  rcases h.tidy.peep.made with m2|m2
  ·left
   rw [m2.ok,if_pos rfl] at e
   exact ⟨least_of m2 ho2 hv2 e,fun a=>absurd a n0⟩
  ·right
   rw [m2,if_neg (by decide)] at e
   exact ⟨by rw [e],by rw [e],hpl.resolve_left n0⟩
end Go.Proofs.YtcnebdjhhfnmoaaGreatDoor.Co
namespace Go.Proofs.YtcnebdjhhfnmoaaGreatDoor.Lo
open Go.Proofs.YtcnebdjhhfnmoaaGreatDoor.Ju Go.Proofs.YtcnebdjhhfnmoaaGreatDoor.Ir Go.Proofs.YtcnebdjhhfnmoaaGreatDoor.Me
def mkP (m:Nat):PtM:=⟨2,0,0,⟨84,0,0,m⟩⟩
def ifC (c v y n:Nat):PtM:=⟨3,(y:Int),(n:Int),⟨c,0,0,v⟩⟩
section
variable {n:Int} {t:List PtM} {k c v y z:Nat}
theorem has_load:HasN n (loadP k::t)↔HasN n t:=by rw [has_cons];exact ⟨fun h=>h.elim (fun h=>by cases h.1) id,Or.inr⟩
theorem has_mk:HasN n (mkP k::t)↔HasN n t:=by rw [has_cons];exact ⟨fun h=>h.elim (fun h=>by cases h.1) id,Or.inr⟩
theorem has_ret:HasN n (retP k::t)↔HasN n t:=by rw [has_cons];exact ⟨fun h=>h.elim (fun h=>by cases h.1) id,Or.inr⟩
theorem has_if:HasN n (ifC c v y z::t)↔HasN n t:=by rw [has_cons];exact ⟨fun h=>h.elim (fun h=>by cases h.1) id,Or.inr⟩
theorem has_here:HasN n (hereP k::t)↔(k:Int)=n∨HasN n t:=by rw [has_cons];exact ⟨fun h=>h.elim (fun h=>Or.inl h.2) Or.inr,fun h=>h.elim (fun h=>Or.inl ⟨rfl,h⟩) Or.inr⟩
theorem has_nil2:HasN n []↔False:=⟨has_nil n,False.elim⟩
theorem fwd_load:Fwd (loadP k::t)↔Fwd t:=⟨fun h=>h.1,fun h=>⟨h,(fun e=>by cases e),(fun m e=>by rcases e with ⟨e,_⟩|⟨e,_⟩<;>cases e)⟩⟩
theorem fwd_mk:Fwd (mkP k::t)↔Fwd t:=⟨fun h=>h.1,fun h=>⟨h,(fun e=>by cases e),(fun m e=>by rcases e with ⟨e,_⟩|⟨e,_⟩<;>cases e)⟩⟩
theorem fwd_ret:Fwd (retP k::t)↔Fwd t:=⟨fun h=>h.1,fun h=>⟨h,(fun e=>by cases e),(fun m e=>by rcases e with ⟨e,_⟩|⟨e,_⟩<;>cases e)⟩⟩
theorem fwd_here:Fwd (hereP k::t)↔Fwd t∧¬HasN (k:Int) t:=⟨fun h=>⟨h.1,h.2.1 rfl⟩,fun h=>⟨h.1,(fun _=>h.2),(fun m e=>by rcases e with ⟨e,_⟩|⟨e,_⟩<;>cases e)⟩⟩
theorem fwd_if:Fwd (ifC c v y z::t)↔Fwd t∧HasN (y:Int) t∧HasN (z:Int) t:=⟨fun h=>⟨h.1,h.2.2 _ (Or.inl ⟨rfl,Or.inl rfl⟩),h.2.2 _ (Or.inl ⟨rfl,Or.inr rfl⟩)⟩,fun h=>⟨h.1,(fun e=>by cases e),(fun m e=>by
 rcases e with ⟨_,e|e⟩|⟨e,_⟩
 ·rw [←e];exact h.2.1
 ·rw [←e];exact h.2.2
 ·cases e)⟩⟩
theorem aft_load:aft n (loadP k::t)=aft n t:=aft_other (fun h=>by cases h.1)
theorem aft_mk:aft n (mkP k::t)=aft n t:=aft_other (fun h=>by cases h.1)
theorem aft_ret:aft n (retP k::t)=aft n t:=aft_other (fun h=>by cases h.1)
theorem aft_if:aft n (ifC c v y z::t)=aft n t:=aft_other (fun h=>by cases h.1)
theorem aft_here:aft (k:Int) (hereP k::t)=hereP k::t:=if_pos ⟨rfl,rfl⟩
theorem aft_past (h:(k:Int)≠n):aft n (hereP k::t)=aft n t:=aft_other (fun e=>h e.2)
theorem aft_skip:∀{e:List PtM},¬HasN n e→aft n (e++t)=aft n t
 | [],_=>rfl
 | p::e,h=>by
  rw [List.cons_append,aft_other (fun a=>h (has_cons.2 (Or.inl a)))]
  exact aft_skip (fun a=>h (has_cons.2 (Or.inr a)))
variable {W:Nat→Nat} {A:Nat}
theorem val_load:valL W (loadP k::t) A=valL W t (W k):=by rw [valL_cons];simp [loadP]
theorem val_mk:valL W (mkP k::t) A=valL W t (A&&&k):=by rw [valL_cons];simp [mkP]
theorem val_ret:valL W (retP k::t) A=k:=by rw [valL_cons];rfl
theorem val_here:valL W (hereP k::t) A=valL W t A:=by rw [valL_cons];rfl
theorem val_if:valL W (ifC c v y z::t) A=if holdsN (c / 16) A v=true then valL W (aft (y:Int) t) A else valL W (aft (z:Int) t) A:=by
 rw [valL_cons]
 show valL W (aft (if holdsN (c / 16) A v=true then (y:Int) else (z:Int)) t) A=_
 split<;>rfl
end
/-! The parts. -/
def bitsL (a m v y n:Nat):List PtM:=[loadP a,mkP m,ifC 21 v y n]
def equalL (k a m v y n:Nat):List PtM×Nat:=
 if m%4294967296=0 then (bitsL (16+8*a+4) (m / 4294967296) (v / 4294967296) y n,k)
 else (bitsL (16+8*a+4) (m / 4294967296) (v / 4294967296) (k+1) n++hereP (k+1)::bitsL (16+8*a) (m%4294967296) (v%4294967296) y n,k+1)
def setB (how l:Nat):Prop:=if how=48 then l=0 else l=4294967295
instance (how l:Nat):Decidable (setB how l):=by unfold setB;exact inferInstance
def aboveL (k a how v y n:Nat):List PtM×Nat:=
 if setB how (v%4294967296) then ([loadP (16+8*a+4),ifC (how+5) (v / 4294967296) y n],k)
 else ([loadP (16+8*a+4),ifC 37 (v / 4294967296) y (k+1),hereP (k+1),ifC 21 (v / 4294967296) (k+2) n,hereP (k+2),loadP (16+8*a),ifC (how+5) (v%4294967296) y n],k+2)
def ask (k:Nat)(c:CondM)(y n:Nat):List PtM×Nat:=
 if c.op=1 then equalL k c.arg.toNat 18446744073709551615 c.val y n
 else if c.op=2 then equalL k c.arg.toNat 18446744073709551615 c.val n y
 else if c.op=3 then aboveL k c.arg.toNat 48 c.val n y
 else if c.op=4 then aboveL k c.arg.toNat 32 c.val n y
 else if c.op=5 then aboveL k c.arg.toNat 32 c.val y n
 else if c.op=6 then aboveL k c.arg.toNat 48 c.val y n
 else if c.op=7 then equalL k c.arg.toNat c.mask c.val y n else ([],k)
def nevB (c:CondM):Bool:=if c.arg<0∨6≤c.arg then true else if c.op=7 then decide (c.val&&&c.mask≠c.val) else decide (c.op<1∨7<c.op)
def condsL (b:Nat):Nat→List CondM→List PtM×Nat
 | k,[]=>([],k)
 | k,c::t=>((ask (k+1) c (k+1) b).1++hereP (k+1)::(condsL b (ask (k+1) c (k+1) b).2 t).1,(condsL b (ask (k+1) c (k+1) b).2 t).2)
def brL (k:Nat)(b:BrM):List PtM×Nat:=
 if b.conds.any nevB=true then ([],k) else ((condsL (k+1) (k+1) b.conds).1++[retP b.act,hereP (k+1)],(condsL (k+1) (k+1) b.conds).2)
def brsL:Nat→List BrM→List PtM×Nat
 | k,[]=>([],k)
 | k,b::t=>((brL k b).1++(brsL (brL k b).2 t).1,(brsL (brL k b).2 t).2)
def callL (d k:Nat)(c:CaM):List PtM×Nat:=(ifC 21 c.num (k+1) (k+2)::hereP (k+1)::((brsL (k+2) c.brs).1++[hereP (k+2),retP d]),(brsL (k+2) c.brs).2)
def midN (l:List CaM):Nat:=match l[l.length / 2]? with|some c=>c.num|none=>0
def searchL (d:Nat):Nat→Nat→List CaM→List PtM×Nat
 | 0,k,_=>([],k)
 | f+1,k,l=>
  if l.length=1 then (match l[0]? with|some c=>callL d k c|none=>([],k))
  else (ifC 53 (midN l) (k+1) (k+2)::hereP (k+2)::((searchL d f (k+2) (l.take (l.length / 2))).1++hereP (k+1)::(searchL d f (searchL d f (k+2) (l.take (l.length / 2))).2 (l.drop (l.length / 2))).1),
   (searchL d f (searchL d f (k+2) (l.take (l.length / 2))).2 (l.drop (l.length / 2))).2)
def callsL (d:Nat)(l:List CaM):List PtM:=if l=[] then [retP d] else loadP 0::(searchL d l.length 2 l).1
def planL (d:Nat)(l:List CaM):List PtM:=bitsL 4 4294967295 3221225534 1 2++hereP 2::retP 2147483648::hereP 1::callsL d l
/-! Names and ways. -/
structure Lay (k k':Nat)(e:List PtM)(Q:Nat→Prop):Prop where
 le:k≤k'
 nm:∀n:Int,HasN n e→(k:Int)<n∧n≤(k':Int)
 fwd:∀t,Fwd t→(∀n:Int,HasN n t→n≤(k:Int)∨(k':Int)<n)→(∀q,Q q→HasN (q:Int) t)→Fwd (e++t)
theorem Lay.not {k k':Nat}{e:List PtM}{Q:Nat→Prop}(h:Lay k k' e Q){n:Nat}(hn:n≤k∨k'<n):¬HasN (n:Int) e:=fun a=>by have:=h.nm n a;omega
theorem bits_has {a m v y n:Nat}{q:Int}{t:List PtM}:HasN q (bitsL a m v y n++t)↔HasN q t:=by
 unfold bitsL;simp only [List.cons_append,List.nil_append,has_load,has_mk,has_if]
theorem bits_fwd {a m v y n:Nat}{t:List PtM}:Fwd (bitsL a m v y n++t)↔Fwd t∧HasN (y:Int) t∧HasN (n:Int) t:=by
 unfold bitsL;simp only [List.cons_append,List.nil_append,fwd_load,fwd_mk,fwd_if]
theorem bits_aft {a m v y n:Nat}{q:Int}{t:List PtM}:aft q (bitsL a m v y n++t)=aft q t:=by
 unfold bitsL;simp only [List.cons_append,List.nil_append,aft_load,aft_mk,aft_if]
theorem bits_lay (k a m v y n:Nat):Lay k k (bitsL a m v y n) (fun q=>q=y∨q=n):=
 ⟨Nat.le_refl _,fun q h=>by rw [←List.append_nil (bitsL a m v y n),bits_has] at h;exact absurd h (has_nil q),fun t ht _ hq=>bits_fwd.2 ⟨ht,hq y (Or.inl rfl),hq n (Or.inr rfl)⟩⟩
theorem equal_lay (k a m v y n:Nat):Lay k (equalL k a m v y n).2 (equalL k a m v y n).1 (fun q=>q=y∨q=n):=by
 unfold equalL
 split
 ·exact bits_lay k _ _ _ y n
 ·refine ⟨Nat.le_succ k,fun q h=>?_,fun t ht hn hq=>?_⟩
  ·rw [bits_has,has_here,←List.append_nil (bitsL (16+8*a) _ _ y n),bits_has,has_nil2] at h
   simp only [or_false] at h
   simp only
   omega
  ·have hy:=hq y (Or.inl rfl)
   have hz:=hq n (Or.inr rfl)
   rw [List.append_assoc,List.cons_append,bits_fwd,fwd_here,bits_fwd]
   refine ⟨⟨⟨ht,hy,hz⟩,fun h=>?_⟩,has_here.2 (Or.inl rfl),has_here.2 (Or.inr (bits_has.2 hz))⟩
   rw [bits_has] at h
   have:=hn _ h
   simp only at this
   omega
theorem above_lay (k a how v y n:Nat):Lay k (aboveL k a how v y n).2 (aboveL k a how v y n).1 (fun q=>q=y∨q=n):=by
 unfold aboveL
 split
 ·refine ⟨Nat.le_refl _,fun q h=>?_,fun t ht hn hq=>?_⟩
  ·simp only [has_load,has_if,has_nil2] at h
  ·simp only [List.cons_append,List.nil_append,fwd_load,fwd_if]
   exact ⟨ht,hq y (Or.inl rfl),hq n (Or.inr rfl)⟩
 ·refine ⟨Nat.le_add_right k 2,fun q h=>?_,fun t ht hn hq=>?_⟩
  ·simp only [has_load,has_if,has_here,has_nil2,or_false] at h
   simp only
   omega
  ·have hy:=hq y (Or.inl rfl)
   have hz:=hq n (Or.inr rfl)
   have h1:¬HasN ((k+1:Nat):Int) t:=fun h=>by have:=hn _ h;simp only at this;omega
   have h2:¬HasN ((k+2:Nat):Int) t:=fun h=>by have:=hn _ h;simp only at this;omega
   simp only [List.cons_append,List.nil_append,fwd_load,fwd_if,fwd_here,has_load,has_if,has_here]
   refine ⟨⟨⟨⟨⟨ht,hy,hz⟩,h2⟩,?_,Or.inr hz⟩,fun h=>h.elim (fun h=>by omega) h1⟩,Or.inr (Or.inr hy),?_⟩<;>simp
theorem Lay.tQ {k k':Nat}{e:List PtM}{Q R:Nat→Prop}(h:Lay k k' e Q)(hr:∀q,Q q→R q):Lay k k' e R:=⟨h.le,h.nm,fun t ht hn hq=>h.fwd t ht hn fun q a=>hq q (hr q a)⟩
theorem ask_lay (k:Nat)(c:CondM)(y n:Nat):Lay k (ask k c y n).2 (ask k c y n).1 (fun q=>q=y∨q=n):=by
 have sw:∀{k k':Nat} {e:List PtM},Lay k k' e (fun q=>q=n∨q=y)→Lay k k' e (fun q=>q=y∨q=n):=fun h=>h.tQ fun q a=>a.symm
 unfold ask
 split
 ·exact equal_lay ..
 split
 ·exact sw (equal_lay ..)
 split
 ·exact sw (above_lay ..)
 split
 ·exact sw (above_lay ..)
 split
 ·exact above_lay ..
 split
 ·exact above_lay ..
 split
 ·exact equal_lay ..
 ·exact ⟨Nat.le_refl _,fun q h=>absurd h (has_nil q),fun t ht _ _=>ht⟩
theorem conds_lay (b:Nat):∀(l:List CondM) (k:Nat),b≤k→Lay k (condsL b k l).2 (condsL b k l).1 (fun q=>q=b)
 | [],k,_=>⟨Nat.le_refl _,fun q h=>absurd h (has_nil q),fun t ht _ _=>ht⟩
 | c::l,k,hb=>by
  have h1:=ask_lay (k+1) c (k+1) b
  have h2:=conds_lay b l (ask (k+1) c (k+1) b).2 (by have:=h1.le;omega)
  have l1:=h1.le
  have l2:=h2.le
  refine ⟨by show k≤(condsL b (ask (k+1) c (k+1) b).2 l).2;omega,fun q h=>?_,fun t ht hn hq=>?_⟩
  ·show (k:Int)<q∧q≤((condsL b (ask (k+1) c (k+1) b).2 l).2:Int)
   rcases has_app.1 (show HasN q ((ask (k+1) c (k+1) b).1++hereP (k+1)::(condsL b (ask (k+1) c (k+1) b).2 l).1) from h) with h|h
   ·have:=h1.nm q h;omega
   ·rcases has_here.1 h with h|h
    ·omega
    ·have:=h2.nm q h;omega
  ·show Fwd (((ask (k+1) c (k+1) b).1++hereP (k+1)::(condsL b (ask (k+1) c (k+1) b).2 l).1)++t)
   have hn':∀n:Int,HasN n t→n≤(k:Int)∨((condsL b (ask (k+1) c (k+1) b).2 l).2:Int)<n:=hn
   rw [List.append_assoc,List.cons_append]
   have g2:=h2.fwd t ht (fun n h=>by have:=hn' n h;omega) hq
   refine h1.fwd _ (fwd_here.2 ⟨g2,fun h=>?_⟩) (fun n h=>?_) (fun q h=>?_)
   ·rcases has_app.1 h with h|h
    ·have:=h2.nm _ h;omega
    ·have:=hn' _ h;omega
   ·rcases has_here.1 h with h|h
    ·omega
    ·rcases has_app.1 h with h|h
     ·have:=h2.nm _ h;omega
     ·have:=hn' _ h;omega
   ·rcases h with rfl|rfl
    ·exact has_here.2 (Or.inl rfl)
    ·exact has_here.2 (Or.inr (has_app.2 (Or.inr (hq _ rfl))))
theorem br_lay (k:Nat)(b:BrM):Lay k (brL k b).2 (brL k b).1 (fun _=>False):=by
 unfold brL
 split
 ·exact ⟨Nat.le_refl _,fun q h=>absurd h (has_nil q),fun t ht _ _=>ht⟩
 ·have h1:=conds_lay (k+1) b.conds (k+1) (Nat.le_refl _)
  have l1:=h1.le
  refine ⟨by simp only;omega,fun q h=>?_,fun t ht hn hq=>?_⟩
  ·simp only
   rcases has_app.1 h with h|h
   ·have:=h1.nm q h;omega
   ·simp only [has_ret,has_here,has_nil2,or_false] at h;omega
  ·simp only at hn
   rw [List.append_assoc]
   simp only [List.cons_append,List.nil_append]
   refine h1.fwd _ (fwd_ret.2 (fwd_here.2 ⟨ht,fun h=>?_⟩)) (fun n h=>?_) (fun q h=>?_)
   ·have:=hn _ h;omega
   ·rw [has_ret,has_here] at h
    rcases h with h|h
    ·omega
    ·have:=hn _ h;omega
   ·rw [h,has_ret,has_here];exact Or.inl rfl
theorem brs_lay:∀(l:List BrM)(k:Nat),Lay k (brsL k l).2 (brsL k l).1 (fun _=>False)
 | [],k=>⟨Nat.le_refl _,fun q h=>absurd h (has_nil q),fun t ht _ _=>ht⟩
 | b::l,k=>by
  have h1:=br_lay k b
  have h2:=brs_lay l (brL k b).2
  have l1:=h1.le
  have l2:=h2.le
  refine ⟨by show k≤(brsL (brL k b).2 l).2;omega,fun q h=>?_,fun t ht hn hq=>?_⟩
  ·show (k:Int)<q∧q≤((brsL (brL k b).2 l).2:Int)
   rcases has_app.1 (show HasN q ((brL k b).1++(brsL (brL k b).2 l).1) from h) with h|h
   ·have:=h1.nm q h;omega
   ·have:=h2.nm q h;omega
  ·show Fwd (((brL k b).1++(brsL (brL k b).2 l).1)++t)
   have hn':∀n:Int,HasN n t→n≤(k:Int)∨((brsL (brL k b).2 l).2:Int)<n:=hn
   rw [List.append_assoc]
   refine h1.fwd _ (h2.fwd t ht (fun n h=>by have:=hn' n h;omega) (fun _ h=>h.elim)) (fun n h=>?_) (fun _ h=>h.elim)
   rcases has_app.1 h with h|h
   ·have:=h2.nm _ h;omega
   ·have:=hn' _ h;omega
theorem call_lay (d k:Nat)(c:CaM):Lay k (callL d k c).2 (callL d k c).1 (fun _=>False):=by
 have h1:=brs_lay c.brs (k+2)
 have l1:=h1.le
 unfold callL
 refine ⟨by simp only;omega,fun q h=>?_,fun t ht hn hq=>?_⟩
 ·simp only
  rw [has_if,has_here,has_app,has_here,has_ret,has_nil2,or_false] at h
  rcases h with h|h|h
  ·omega
  ·have:=h1.nm q h;omega
  ·omega
 ·simp only at hn
  simp only [List.cons_append,List.append_assoc,List.nil_append]
  have g:Fwd (hereP (k+2)::retP d::t):=fwd_here.2 ⟨fwd_ret.2 ht,fun h=>by rw [has_ret] at h;have:=hn _ h;omega⟩
  have g1:=h1.fwd _ g (fun n h=>by
   rw [has_here,has_ret] at h
   rcases h with h|h
   ·omega
   ·have:=hn _ h;omega) (fun _ h=>h.elim)
  refine fwd_if.2 ⟨fwd_here.2 ⟨g1,fun h=>?_⟩,has_here.2 (Or.inl rfl),has_here.2 (Or.inr (has_app.2 (Or.inr (has_here.2 (Or.inl rfl)))))⟩
  rcases has_app.1 h with h|h
  ·have:=h1.nm _ h;omega
  ·rw [has_here,has_ret] at h
   rcases h with h|h
   ·omega
   ·have:=hn _ h;omega
theorem search_lay (d:Nat):∀(f k:Nat) (l:List CaM),Lay k (searchL d f k l).2 (searchL d f k l).1 (fun _=>False)
 | 0,k,l=>⟨Nat.le_refl _,fun q h=>absurd h (has_nil q),fun t ht _ _=>ht⟩
 | f+1,k,l=>by
  unfold searchL
  split
  ·cases l[0]? with
   | none=>exact ⟨Nat.le_refl _,fun q h=>absurd h (has_nil q),fun t ht _ _=>ht⟩
   | some c=>exact call_lay d k c
  ·have h1:=search_lay d f (k+2) (l.take (l.length / 2))
   obtain ⟨e1,k1,hx⟩:∃e1 k1,searchL d f (k+2) (l.take (l.length / 2))=(e1,k1):=⟨_,_,rfl⟩
   rw [hx] at h1 ⊢
   simp only at h1 ⊢
   have h2:=search_lay d f k1 (l.drop (l.length / 2))
   obtain ⟨e2,k2,hy⟩:∃e2 k2,searchL d f k1 (l.drop (l.length / 2))=(e2,k2):=⟨_,_,rfl⟩
   rw [hy] at h2 ⊢
   simp only at h2 ⊢
   have l1:=h1.le
   have l2:=h2.le
   refine ⟨by omega,fun q h=>?_,fun t ht hn hq=>?_⟩
   ·rw [has_if,has_here,has_app,has_here] at h
    rcases h with h|h|h|h
    ·omega
    ·have:=h1.nm q h;omega
    ·omega
    ·have:=h2.nm q h;omega
   ·simp only [List.cons_append,List.append_assoc]
    have g2:=h2.fwd t ht (fun n h=>by have:=hn n h;omega) (fun _ h=>h.elim)
    have g3:Fwd (hereP (k+1)::(e2++t)):=fwd_here.2 ⟨g2,fun h=>by
     rcases has_app.1 h with h|h
     ·have:=h2.nm _ h;omega
     ·have:=hn _ h;omega⟩
    have g1:=h1.fwd _ g3 (fun n h=>by
     rcases has_here.1 h with h|h
     ·omega
     ·rcases has_app.1 h with h|h
      ·have:=h2.nm _ h;omega
      ·have:=hn _ h;omega) (fun _ h=>h.elim)
    refine fwd_if.2 ⟨fwd_here.2 ⟨g1,fun h=>?_⟩,has_here.2 (Or.inr (has_app.2 (Or.inr (has_here.2 (Or.inl rfl))))),has_here.2 (Or.inl rfl)⟩
    rcases has_app.1 h with h|h
    ·have:=h1.nm _ h;omega
    ·rcases has_here.1 h with h|h
     ·omega
     ·rcases has_app.1 h with h|h
      ·have:=h2.nm _ h;omega
      ·have:=hn _ h;omega
theorem plan_fwd (d:Nat)(l:List CaM):Fwd (planL d l):=by
 unfold planL
 have g:Fwd (callsL d l)∧∀n:Int,HasN n (callsL d l)→2<n:=by
  unfold callsL
  split
  ·exact ⟨fwd_ret.2 trivial,fun n h=>by rw [has_ret] at h;exact absurd h (has_nil n)⟩
  ·have h:=search_lay d l.length 2 l
   have hf:=h.fwd [] trivial (fun n h=>absurd h (has_nil n)) (fun _ h=>h.elim)
   rw [List.append_nil] at hf
   exact ⟨fwd_load.2 hf,fun n a=>by rw [has_load] at a;have:=h.nm n a;omega⟩
 rw [bits_fwd,fwd_here,fwd_ret,fwd_here]
 refine ⟨⟨⟨g.1,fun h=>?_⟩,fun h=>?_⟩,has_here.2 (Or.inr (has_ret.2 (has_here.2 (Or.inl rfl)))),has_here.2 (Or.inl rfl)⟩
 ·have:=g.2 _ h;omega
 ·rw [has_ret,has_here] at h
  rcases h with h|h
  ·omega
  ·have:=g.2 _ h;omega
end Go.Proofs.YtcnebdjhhfnmoaaGreatDoor.Lo
