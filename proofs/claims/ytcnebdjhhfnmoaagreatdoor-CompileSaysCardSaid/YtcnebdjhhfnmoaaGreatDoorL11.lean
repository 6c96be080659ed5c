/- What the laws of stage 13 are handed: an instruction by value, small parts. -/
import Derived.Test.YtcnebdjhhfnmoaaGreatDoorL10
import Derived.Deep.Slices
import Derived.ChangeArms
import Derived.ChangeSlices
import Derived.DataReads
import Derived.ProofKit
import Derived.ChangeOld
import Derived.SliceStrings
import Derived.OpenShut
set_option maxHeartbeats 32000000
set_option maxRecDepth 100000
namespace Go.Proofs.YtcnebdjhhfnmoaaGreatDoor.Ju
open Go.ChangeShapes Go.WideShapes Go.ChangeAt Go.RowKit Go.Deep
theorem list_of {α:Type}{Q:Nat→α→Prop}:∀(n:Nat),(∀i,i<n→∃x,Q i x)→∃l:List α,l.length=n∧∀i x,l[i]?=some x→Q i x
 | 0,_=>⟨[],rfl,fun i x h=>by simp at h⟩
 | n+1,h=>by
  obtain ⟨l,hl,hq⟩:=list_of n (fun i hi=>h i (by omega))
  obtain ⟨x,hx⟩:=h n (by omega)
  refine ⟨l++[x],by simp [hl],fun i y hy=>?_⟩
  by_cases hi:i<n
  ·rw [List.getElem?_append_left (by omega)] at hy;exact hq i y hy
  ·have:i=n:=by
    have:=(List.getElem?_eq_some_iff.1 hy).1
    simp at this;omega
   subst this
   rw [List.getElem?_append_right (by omega),hl] at hy
   simp at hy;subst hy;exact hx
section
variable {H:Type} {enc:TypeId×Value→H} {w:World} {base:Nat} {spare:Nat→Bool} {held:Bool} {fuel:Nat} {x:DataW H×List MemPlace} {A:Option Addr} {len cap:Nat}
theorem cell_lt {w:World}{a:Addr}{v:Value}(h:w.cell? a=some v):a.block<w.heap.size∧a.spot=none:=by
 refine ⟨?_,?_⟩
 ·unfold World.cell? at h
  split at h
  ·rename_i h2;exact (Array.getElem?_eq_some_iff.1 h2).1
  ·cases h
 ·unfold World.cell? at h
  split at h
  ·split at h
   ·cases h
   ·rename_i h3;simpa using h3
  ·cases h
theorem add_at (b o j:Nat):(⟨b,o,none⟩:Addr).add j=⟨b,o+j,none⟩:=by unfold Addr.add;split<;>simp_all
theorem rd_of {z n:Nat}{a:Addr}{xs:List Value}(hl:xs.length=n*z)(hz:0<z)(h:∀j u,xs[j]?=some u→w.cell? (a.add j)=some u):Rd w z n (some a) xs:=by
 refine ⟨hl,?_⟩
 rcases Nat.eq_zero_or_pos n with h0|h0
 ·exact .inl h0
 ·right
  have hp:0<xs.length:=by rw [hl];exact Nat.mul_pos h0 hz
  obtain ⟨h1,h2⟩:=cell_lt (h 0 _ (List.getElem?_eq_getElem hp))
  obtain ⟨b,o,spot⟩:=a
  have hs:spot=none:=by simpa [Addr.add] using h2
  subst hs
  exact ⟨b,o,rfl,by simpa [Addr.add] using h1,fun j u hu=>by rw [←add_at];exact h j u hu⟩
theorem one_field {f:Field}{T k:Nat}{cs:List Value}{v:Value}{y:Option (DataW H×List MemPlace)}(h:DataW.trod enc Tryz.prog w base spare held fuel f.type ((cs.drop f.offset).take (Tryz.prog.cellsOf f.type))=y)
  (hT:f.type=T) (hk:f.offset=k) (hc:Tryz.prog.cellsOf T=1) (hv:(cs.drop k).take 1=[v]):DataW.trod enc Tryz.prog w base spare held fuel T [v]=y:=by
 subst hT hk
 rwa [hc,hv] at h
end
section
variable {H:Type} {enc:TypeId×Value→H} {w:World} {base:Nat} {spare:Nat→Bool} {held:Bool} {r:Go.Reach} {b0:Nat} {v:Value} {d:DataW H} {p:List MemPlace}
theorem u32_of {fuel:Nat}{v:Value}(h:∃y,DataW.trod enc Tryz.prog w base spare held fuel 22 [v]=some y):∃n:Nat,v=.int .u32 n∧n<4294967296:=by
 obtain ⟨y,h⟩:=h
 obtain ⟨n,e,_,g⟩:=DataW.trod_int Tryz.underlying22 h
 have b:=bounds_u32 g
 obtain ⟨m,rfl⟩:=Int.eq_ofNat_of_zero_le b.1
 simp only [List.cons.injEq,and_true] at e
 exact ⟨m,e,by omega⟩
end
structure SmP where
 kd:Nat
 tt:Nat
 el:Nat
 how:Nat
 k:Nat
 pad:Nat
def SmP.cells (p:SmP):List Value:=[.int .u8 p.kd,.int .u8 p.tt,.int .u8 p.el,.int .u8 p.how,.int .u8 p.k,.int .u16 p.pad]
def SmP.ok (p:SmP):Prop:=p.kd<256∧p.tt<256∧p.el<256∧p.how<256∧p.k<256∧p.pad<65536
section
variable {H:Type} {enc:TypeId×Value→H} {w:World} {base:Nat} {spare:Nat→Bool} {held:Bool} {fuel:Nat} {x:DataW H×List MemPlace} {A:Option Addr} {len cap:Nat}
end
end Go.Proofs.YtcnebdjhhfnmoaaGreatDoor.Ju
namespace Go.Proofs.YtcnebdjhhfnmoaaGreatDoor.Ju
def zI:Ins:=⟨0,0,0,0⟩
def loadP (k:Nat):PtM:=⟨2,0,0,⟨32,0,0,k⟩⟩
def hereP (n:Nat):PtM:=⟨1,n,0,zI⟩
def retP (n:Nat):PtM:=⟨2,0,0,⟨6,0,0,n⟩⟩
structure Got (l:List PtM)(n i K:Nat):Prop where
 ok:(makeF l).1=0
 has:∀m:Nat,n≤m→m≤6→(lk (m:Int) (makeF l).2.bh).isSome=true
 no:∀m:Nat,m<n→lk (m:Int) (makeF l).2.bh=none
 high:∀j:Nat,j<i→lk ((100+j:Nat):Int) (makeF l).2.bh=none
 len:(makeF l).2.ins.length≤K
theorem step_eq {p:PtM}{c:CdM}(h:(layF p c).2.ins.length≤4096):stepF p (0,c)=layF p c:=by
 have e:stepF p (0,c)=if (layF p c).1≠0 then layF p c else if 4096<(layF p c).2.ins.length then (205,(layF p c).2) else layF p c:=by unfold stepF;rw [if_neg (by simp)]
 rw [e]
 by_cases h1:(layF p c).1≠0
 ·rw [if_pos h1]
 ·rw [if_neg h1,if_neg (by omega)]
theorem step_plain {p:PtM}{l:List PtM}(h:(makeF l).1=0)(hk:p.kd=2)(hc:p.i.c%8≠5)(hl:(makeF l).2.ins.length+1≤4096):makeF (p::l)=(0,⟨p.i::(makeF l).2.ins,(makeF l).2.bh⟩):=by
 rw [makeF_cons,show makeF l=(0,(makeF l).2) from Prod.ext h rfl]
 have e:layF p (makeF l).2=(0,⟨p.i::(makeF l).2.ins,(makeF l).2.bh⟩):=by
  unfold layF
  rw [if_neg (by omega),if_pos hk,if_neg hc]
 rw [step_eq (by rw [e];simpa using hl),e]
theorem step_here {p:PtM}{l:List PtM}(h:(makeF l).1=0)(hk:p.kd=1)(hn:lk p.tQ (makeF l).2.bh=none)(hl:(makeF l).2.ins.length≤4096):makeF (p::l)=(0,⟨(makeF l).2.ins,(p.tQ,(makeF l).2.ins.length)::(makeF l).2.bh⟩):=by
 rw [makeF_cons,show makeF l=(0,(makeF l).2) from Prod.ext h rfl]
 have e:layF p (makeF l).2=(0,⟨(makeF l).2.ins,(p.tQ,(makeF l).2.ins.length)::(makeF l).2.bh⟩):=by
  unfold layF
  rw [if_pos hk,hn]
 rw [step_eq (by rw [e];simpa using hl),e]
theorem Got.plain {l:List PtM}{n i K:Nat}(h:Got l n i K)(hK:K+1≤4096){p:PtM}(hk:p.kd=2)(hc:p.i.c%8≠5):Got (p::l) n i (K+1):=by
 have hl:=h.len
 have e:=step_plain h.ok hk hc (by omega)
 refine ⟨by rw [e],?_,?_,?_,?_⟩<;>rw [e]<;>simp only
 ·exact h.has
 ·exact h.no
 ·exact h.high
 ·rw [List.length_cons];omega
theorem Got.here {l:List PtM}{n i K:Nat}(h:Got l (n+1) i K)(hn:n≤6)(hK:K≤4096):Got (hereP n::l) n i K:=by
 have hl:=h.len
 have e:=step_here (p:=hereP n) h.ok rfl (h.no n (by omega)) (by omega)
 refine ⟨by rw [e],?_,?_,?_,?_⟩<;>rw [e]<;>simp only
 ·intro m h1 h2
  rw [lk_cons]
  by_cases hm:m=n
  ·subst hm;rw [if_pos (by rfl)];rfl
  ·rw [if_neg (by show ¬(n:Int)=m;omega)];exact h.has m (by omega) h2
 ·intro m h1
  rw [lk_cons,if_neg (by show ¬(n:Int)=m;omega)]
  exact h.no m (by omega)
 ·intro j hj
  rw [lk_cons,if_neg (by show ¬(n:Int)=((100+j:Nat):Int);omega)]
  exact h.high j hj
 ·exact hl
end Go.Proofs.YtcnebdjhhfnmoaaGreatDoor.Ju
namespace Go.Proofs.YtcnebdjhhfnmoaaGreatDoor.Ju
def HasN (n:Int)(l:List PtM):Prop:=∃p∈l,p.kd=1∧p.tQ=n
def WayTo (p:PtM)(n:Int):Prop:=(p.kd=3∧(p.tQ=n∨p.el=n))∨(p.kd=4∧p.tQ=n)
def Fwd:List PtM→Prop
 | []=>True
 | p::t=>Fwd t∧(p.kd=1→¬HasN p.tQ t)∧(∀n,WayTo p n→HasN n t)
theorem has_nil (n:Int):¬HasN n []:=fun ⟨_,h,_⟩=>by cases h
theorem has_cons {n:Int}{p:PtM}{t:List PtM}:HasN n (p::t)↔(p.kd=1∧p.tQ=n)∨HasN n t:=by
 constructor
 ·rintro ⟨q,hq,h1,h2⟩
  rcases List.mem_cons.1 hq with rfl|hq
  ·exact Or.inl ⟨h1,h2⟩
  ·exact Or.inr ⟨q,hq,h1,h2⟩
 ·rintro (⟨h1,h2⟩|⟨q,hq,h1,h2⟩)
  ·exact ⟨p,List.mem_cons_self,h1,h2⟩
  ·exact ⟨q,List.mem_cons_of_mem _ hq,h1,h2⟩
theorem fwd_way:∀{l:List PtM}{p:PtM}{n:Int},Fwd l→p∈l→WayTo p n→HasN n l
 | q::t,p,n,h,hp,hw=>by
  rcases List.mem_cons.1 hp with rfl|hp
  ·exact has_cons.2 (Or.inr (h.2.2 n hw))
  ·exact has_cons.2 (Or.inr (fwd_way h.1 hp hw))
/-! Leading, from the end. -/
def leadR:List PtM→LdM
 | []=>⟨[],[],zPt⟩
 | p::t=>if p.kd=1 then (if (leadR t).nx.kd=4 then ⟨p::(leadR t).l,(p.tQ,(leadR t).nx.tQ)::(leadR t).o,(leadR t).nx⟩ else ⟨p::(leadR t).l,(leadR t).o,(leadR t).nx⟩)
  else ⟨ledP (leadR t).o p::(leadR t).l,(leadR t).o,ledP (leadR t).o p⟩
theorem lead_rec (l:List PtM):∀(d m:Nat),m+d=l.length→(List.range' m d).foldr (fun k s=>leadS s k) ⟨l,[],zPt⟩=⟨l.take m++(leadR (l.drop m)).l,(leadR (l.drop m)).o,(leadR (l.drop m)).nx⟩
 | 0,m,h=>by
  rw [List.drop_of_length_le (by omega),List.take_of_length_le (by omega)]
  simp [leadR]
 | d+1,m,h=>by
  rw [List.range'_succ,List.foldr_cons,lead_rec l d (m+1) (by omega)]
  obtain ⟨p,hp⟩:∃p,l[m]?=some p:=⟨_,List.getElem?_eq_getElem (by omega)⟩
  obtain ⟨h1,h2⟩:=List.getElem?_eq_some_iff.1 hp
  have hd:l.drop m=p::l.drop (m+1):=by rw [List.drop_eq_getElem_cons h1,h2]
  have ht:l.take (m+1)=l.take m++[p]:=by rw [List.take_add_one,hp];rfl
  rw [hd,ht]
  have hat:(l.take m++[p]++(leadR (l.drop (m+1))).l)[m]?=some p:=by
   rw [List.append_assoc,List.getElem?_append_right (by rw [List.length_take];omega),List.length_take,show m-min m l.length=0 from by omega];rfl
  have hset:∀q,(l.take m++[p]++(leadR (l.drop (m+1))).l).set m q=l.take m++q::(leadR (l.drop (m+1))).l:=fun q=>by
   rw [List.append_assoc,List.set_append_right _ _ (by rw [List.length_take];omega),List.length_take,show m-min m l.length=0 from by omega];rfl
  unfold leadS
  simp only [hat]
  rw [show leadR (p::l.drop (m+1))=if p.kd=1 then (if (leadR (l.drop (m+1))).nx.kd=4 then ⟨p::(leadR (l.drop (m+1))).l,(p.tQ,(leadR (l.drop (m+1))).nx.tQ)::(leadR (l.drop (m+1))).o,(leadR (l.drop (m+1))).nx⟩ else ⟨p::(leadR (l.drop (m+1))).l,(leadR (l.drop (m+1))).o,(leadR (l.drop (m+1))).nx⟩)
   else ⟨ledP (leadR (l.drop (m+1))).o p::(leadR (l.drop (m+1))).l,(leadR (l.drop (m+1))).o,ledP (leadR (l.drop (m+1))).o p⟩ from rfl]
  by_cases k1:p.kd=1
  ·rw [if_pos k1,if_pos k1]
   by_cases k4:(leadR (l.drop (m+1))).nx.kd=4
   ·rw [if_pos k4,if_pos k4];simp
   ·rw [if_neg k4,if_neg k4];simp
  ·rw [if_neg k1,if_neg k1,hset]
theorem leadF_rec (l:List PtM):leadF l=(leadR l).l:=by
 unfold leadF
 rw [List.foldl_reverse,List.range_eq_range',lead_rec l l.length 0 (by omega)]
 simp
theorem led_kd (o:List (Int×Int))(p:PtM):(ledP o p).kd=p.kd:=by
 unfold ledP
 split
 ·rfl
 ·split<;>rfl
theorem cnt_pos {n t:Int}:∀{o:List (Int×Int)},lk n o=some t→0<cnt o
 | [],h=>by simp [lk] at h
 | (m,v)::o,h=>by
  unfold cnt
  split
  ·rename_i h2
   obtain ⟨v2,hv2⟩:=Option.isSome_iff_exists.1 h2
   exact cnt_pos (n:=m) (t:=v2) hv2
  ·omega
def InvO (o:List (Int×Int)):Prop:=∀n t,lk n o=some t→lk t o=none
theorem end_one {o:List (Int×Int)}(h:InvO o)(n:Int):(lk n o=none∧endF o n=n)∨(∃t,lk n o=some t∧endF o n=t):=by
 unfold endF
 cases hl:lk n o with
 | none=>
  refine Or.inl ⟨rfl,?_⟩
  cases cnt o with
  | zero=>rfl
  | succ k=>unfold endN;rw [hl]
 | some t=>
  refine Or.inr ⟨t,rfl,?_⟩
  have:=cnt_pos hl
  obtain ⟨k,hk⟩:∃k,cnt o=k+1:=⟨cnt o-1,by omega⟩
  rw [hk]
  unfold endN
  rw [hl]
  simp only
  cases k with
  | zero=>rfl
  | succ k=>unfold endN;rw [h n t hl]
theorem end_none {o:List (Int×Int)}(h:InvO o)(n:Int):lk (endF o n) o=none:=by
 rcases end_one h n with ⟨h1,h2⟩|⟨t,h1,h2⟩
 ·rw [h2];exact h1
 ·rw [h2];exact h n t h1
theorem way_led {o:List (Int×Int)}{p:PtM}{n:Int}(h:WayTo (ledP o p) n):∃m,WayTo p m∧n=endF o m:=by
 unfold ledP at h
 by_cases h3:p.kd=3
 ·rw [if_pos h3] at h
  rcases h with ⟨_,h|h⟩|⟨h,_⟩
  ·exact ⟨p.tQ,Or.inl ⟨h3,Or.inl rfl⟩,h.symm⟩
  ·exact ⟨p.el,Or.inl ⟨h3,Or.inr rfl⟩,h.symm⟩
  ·simp only at h;omega
 ·rw [if_neg h3] at h
  by_cases h4:p.kd=4
  ·rw [if_pos h4] at h
   rcases h with ⟨h,_⟩|⟨_,h⟩
   ·simp only at h;omega
   ·exact ⟨p.tQ,Or.inr ⟨h4,rfl⟩,h.symm⟩
  ·rw [if_neg h4] at h
   rcases h with ⟨h,_⟩|⟨h,_⟩
   ·exact absurd h h3
   ·exact absurd h h4
structure LdI (z:List PtM)(s:LdM):Prop where
 inv:InvO s.o
 keys:∀n t,lk n s.o=some t→HasN n z∧HasN t z
 has:∀n,HasN n s.l↔HasN n z
 fwd:Fwd s.l
 ways:∀p∈s.l,∀n,WayTo p n→lk n s.o=none
 nx:s.nx.kd=4→HasN s.nx.tQ z∧lk s.nx.tQ s.o=none
theorem lead_inv:∀{z:List PtM},Fwd z→LdI z (leadR z)
 | [],_=>⟨fun n t h=>by simp [leadR,lk] at h,fun n t h=>by simp [leadR,lk] at h,fun n=>Iff.rfl,trivial,fun p hp=>by simp [leadR] at hp,fun h=>by simp [leadR,zPt] at h⟩
 | p::t,h=>by
  obtain ⟨h1,h2,h3⟩:=h
  have ih:=lead_inv h1
  obtain ⟨s,hs⟩:∃s,s=leadR t:=⟨_,rfl⟩
  rw [←hs] at ih
  have hup:∀{n:Int},HasN n t→HasN n (p::t):=fun a=>has_cons.2 (Or.inr a)
  by_cases k1:p.kd=1
  ·have hp:=h2 k1
   have hfw:Fwd (p::s.l):=⟨ih.fwd,fun _ a=>hp ((ih.has _).1 a),fun n a=>by rcases a with ⟨a,_⟩|⟨a,_⟩<;>omega⟩
   have hhas:∀n,HasN n (p::s.l)↔HasN n (p::t):=fun n=>by rw [has_cons,has_cons,ih.has]
   have hnw:∀n,¬WayTo p n:=fun n a=>by rcases a with ⟨a,_⟩|⟨a,_⟩<;>omega
   by_cases k4:s.nx.kd=4
   ·rw [show leadR (p::t)=⟨p::s.l,(p.tQ,s.nx.tQ)::s.o,s.nx⟩ by unfold leadR;rw [if_pos k1,←hs,if_pos k4]]
    obtain ⟨a1,a2⟩:=ih.nx k4
    have ne:∀{n:Int},HasN n t→p.tQ≠n:=fun a e=>hp (by rw [e];exact a)
    have hno:∀{n:Int},HasN n t→lk n ((p.tQ,s.nx.tQ)::s.o)=lk n s.o:=fun a=>by rw [lk_cons,if_neg (ne a)]
    refine ⟨fun n u hu=>?_,fun n u hu=>?_,hhas,hfw,fun q hq n hw=>?_,fun _=>⟨hup a1,by rw [hno a1];exact a2⟩⟩
    ·rw [lk_cons] at hu
     split at hu
     ·cases hu;rw [hno a1];exact a2
     ·rw [hno (ih.keys n u hu).2];exact ih.inv n u hu
    ·rw [lk_cons] at hu
     split at hu
     ·rename_i e;cases hu;exact ⟨has_cons.2 (Or.inl ⟨k1,e⟩),hup a1⟩
     ·exact ⟨hup (ih.keys n u hu).1,hup (ih.keys n u hu).2⟩
    ·rcases List.mem_cons.1 hq with rfl|hq
     ·exact absurd hw (hnw n)
     ·rw [hno ((ih.has n).1 (fwd_way ih.fwd hq hw))];exact ih.ways q hq n hw
   ·rw [show leadR (p::t)=⟨p::s.l,s.o,s.nx⟩ by unfold leadR;rw [if_pos k1,←hs,if_neg k4]]
    refine ⟨ih.inv,fun n u hu=>⟨hup (ih.keys n u hu).1,hup (ih.keys n u hu).2⟩,hhas,hfw,fun q hq n hw=>?_,fun a=>absurd a k4⟩
    rcases List.mem_cons.1 hq with rfl|hq
    ·exact absurd hw (hnw n)
    ·exact ih.ways q hq n hw
  ·rw [show leadR (p::t)=⟨ledP s.o p::s.l,s.o,ledP s.o p⟩ by unfold leadR;rw [if_neg k1,←hs]]
   have hk:(ledP s.o p).kd≠1:=by rw [led_kd];exact k1
   have hw:∀n,WayTo (ledP s.o p) n→HasN n t∧lk n s.o=none:=fun n a=>by
    obtain ⟨m,hm,rfl⟩:=way_led a
    refine ⟨?_,end_none ih.inv m⟩
    rcases end_one ih.inv m with ⟨_,e⟩|⟨u,e1,e2⟩
    ·rw [e];exact h3 m hm
    ·rw [e2];exact (ih.keys m u e1).2
   refine ⟨ih.inv,fun n u hu=>⟨hup (ih.keys n u hu).1,hup (ih.keys n u hu).2⟩,fun n=>?_,⟨ih.fwd,fun a=>absurd a hk,fun n a=>(ih.has n).2 (hw n a).1⟩,fun q hq n a=>?_,fun a=>?_⟩
   ·rw [has_cons,has_cons,ih.has]
    constructor
    ·rintro (⟨a,_⟩|a)
     ·exact absurd a hk
     ·exact Or.inr a
    ·rintro (⟨a,_⟩|a)
     ·exact absurd a k1
     ·exact Or.inr a
   ·rcases List.mem_cons.1 hq with rfl|hq
    ·exact (hw n a).2
    ·exact ih.ways q hq n a
   ·have:=hw (ledP s.o p).tQ (Or.inr ⟨a,rfl⟩)
    exact ⟨hup this.1,this.2⟩
def nextP:List PtM→Option PtM
 | []=>none
 | p::t=>if p.kd=1 then nextP t else some p
def BadH (n:Int):List PtM→Prop
 | []=>False
 | p::t=>(p.kd=1∧p.tQ=n∧∃q,nextP t=some q∧q.kd=4)∨BadH n t
theorem lead_next:∀(z:List PtM),(∀q,nextP (leadR z).l=some q→(leadR z).nx=q)
 | [],q,h=>by simp [leadR,nextP] at h
 | p::t,q,h=>by
  have ih:=lead_next t
  by_cases k1:p.kd=1
  ·by_cases k4:(leadR t).nx.kd=4
   ·have e:leadR (p::t)=⟨p::(leadR t).l,(p.tQ,(leadR t).nx.tQ)::(leadR t).o,(leadR t).nx⟩:=by conv=>lhs;unfold leadR;rw [if_pos k1,if_pos k4]
    rw [e] at h ⊢
    exact ih q (by simpa [nextP,k1] using h)
   ·have e:leadR (p::t)=⟨p::(leadR t).l,(leadR t).o,(leadR t).nx⟩:=by conv=>lhs;unfold leadR;rw [if_pos k1,if_neg k4]
    rw [e] at h ⊢
    exact ih q (by simpa [nextP,k1] using h)
  ·have e:leadR (p::t)=⟨ledP (leadR t).o p::(leadR t).l,(leadR t).o,ledP (leadR t).o p⟩:=by conv=>lhs;unfold leadR;rw [if_neg k1]
   rw [e] at h ⊢
   have hk:(ledP (leadR t).o p).kd≠1:=by rw [led_kd];exact k1
   simpa [nextP,hk] using h
theorem lead_bad:∀(z:List PtM)(n:Int),BadH n (leadR z).l→lk n (leadR z).o≠none
 | [],n,h=>by simp [leadR,BadH] at h
 | p::t,n,h=>by
  have ih:=lead_bad t n
  by_cases k1:p.kd=1
  ·by_cases k4:(leadR t).nx.kd=4
   ·have e:leadR (p::t)=⟨p::(leadR t).l,(p.tQ,(leadR t).nx.tQ)::(leadR t).o,(leadR t).nx⟩:=by conv=>lhs;unfold leadR;rw [if_pos k1,if_pos k4]
    rw [e] at h ⊢
    simp only [lk_cons]
    by_cases en:p.tQ=n
    ·rw [if_pos en];simp
    ·rw [if_neg en]
     rcases h with ⟨_,h,_⟩|h
     ·exact absurd h en
     ·exact ih h
   ·have e:leadR (p::t)=⟨p::(leadR t).l,(leadR t).o,(leadR t).nx⟩:=by conv=>lhs;unfold leadR;rw [if_pos k1,if_neg k4]
    rw [e] at h ⊢
    rcases h with ⟨_,_,q,hq,h4⟩|h
    ·exact absurd (by rw [lead_next t q hq];exact h4) k4
    ·exact ih h
  ·have e:leadR (p::t)=⟨ledP (leadR t).o p::(leadR t).l,(leadR t).o,ledP (leadR t).o p⟩:=by conv=>lhs;unfold leadR;rw [if_neg k1]
   rw [e] at h ⊢
   have hk:(ledP (leadR t).o p).kd≠1:=by rw [led_kd];exact k1
   rcases h with ⟨h,_⟩|h
   ·exact absurd h hk
   ·exact ih h
end Go.Proofs.YtcnebdjhhfnmoaaGreatDoor.Ju
