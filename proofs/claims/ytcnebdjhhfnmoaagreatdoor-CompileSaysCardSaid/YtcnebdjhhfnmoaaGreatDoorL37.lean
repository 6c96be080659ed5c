/- What the law is handed: policies, policies of small numbers, conditions. -/
import Derived.Test.YtcnebdjhhfnmoaaGreatDoorL21
import Derived.Deep.Slices
import Derived.ChangeArms
import Derived.ChangeSlices
import Derived.DataReads
import Derived.ProofKit
import Derived.ChangeOld
import Derived.SliceStrings
import Derived.OpenShut
import Derived.Test.YtcnebdjhhfnmoaaGreatDoorL14
set_option maxHeartbeats 32000000
set_option maxRecDepth 100000
namespace Go.Proofs.YtcnebdjhhfnmoaaGreatDoor
open Go.ChangeShapes Go.WideShapes Go.ChangeAt Go.RowKit Go.Deep
theorem list_of {α:Type}{Q:Nat→α→Prop}:∀(n:Nat),(∀i,i<n→∃x,Q i x)→∃l:List α,l.length=n∧∀i x,l[i]?=some x→Q i x
 | 0,_=>⟨[],rfl,fun i x h=>by simp at h⟩
 | n+1,h=>by
  obtain ⟨l,hl,hq⟩:=list_of n (fun i hi=>h i (by omega))
  obtain ⟨x,hx⟩:=h n (by omega)
  refine ⟨l++[x],by simp [hl],fun i y hy=>?_⟩
  by_cases hi:i<n
  ·rw [List.getElem?_append_left (by omega)] at hy;exact hq i y hy
  ·have:i=n:=by
    have:=(List.getElem?_eq_some_iff.1 hy).1
    simp at this;omega
   subst this
   rw [List.getElem?_append_right (by omega),hl] at hy
   simp at hy;subst hy;exact hx
section
variable {H:Type} {enc:TypeId×Value→H} {w:World} {base:Nat} {spare:Nat→Bool} {held:Bool} {fuel:Nat} {x:DataW H×List MemPlace} {A:Option Addr} {len cap:Nat}
theorem one_field {f:Field}{T k:Nat}{cs:List Value}{v:Value}{y:Option (DataW H×List MemPlace)}(h:DataW.trod enc Tryz.prog w base spare held fuel f.type ((cs.drop f.offset).take (Tryz.prog.cellsOf f.type))=y)
  (hT:f.type=T) (hk:f.offset=k) (hc:Tryz.prog.cellsOf T=1) (hv:(cs.drop k).take 1=[v]):DataW.trod enc Tryz.prog w base spare held fuel T [v]=y:=by
 subst hT hk
 rwa [hc,hv] at h
theorem slice_form {T e:TypeId}(hu:Tryz.prog.underlying T=some (.slice e)){v:Value}(h:DataW.trod enc Tryz.prog w base spare held fuel T [v]=some x):∃A len cap,v=.slice A len cap:=by
 rcases Go.Deep.open_slice hu h with ⟨hcs,_⟩|⟨a,len,cap,m,n,D,Pl,hcs,_⟩
 ·simp only [List.cons.injEq,and_true] at hcs;exact ⟨_,_,_,hcs⟩
 ·simp only [List.cons.injEq,and_true] at hcs;exact ⟨_,_,_,hcs⟩
theorem str_len {s:Bs}(h:(⟨s.toArray⟩:ByteArray).size≤maxLen):s.length≤maxLen:=by rwa [Lib.size_eq] at h
theorem open_conds (h:DataW.trod enc Tryz.prog w base spare held fuel 84 [.slice A len cap]=some x) :
  ∃l:List CondM,l.length=len∧(∀i∈l,i.ok)∧Rd w 4 len A (l.flatMap CondM.cells)∧len≤maxLen∧len≤cap:=by
 rcases Go.Deep.open_slice Tryz.underlying84 h with ⟨hcs,_⟩|⟨a,len',cap',m,n,D,Pl,hcs,hb,hl,hm,hmm,hx,hi⟩
 ·simp only [List.cons.injEq,Value.slice.injEq,and_true] at hcs
  obtain ⟨rfl,rfl,rfl⟩:=hcs
  exact ⟨[],rfl,by simp,Rd.nil _ _ _,by unfold maxLen;omega,Nat.le_refl _⟩
 ·simp only [List.cons.injEq,Value.slice.injEq,and_true] at hcs
  obtain ⟨rfl,rfl,rfl⟩:=hcs
  have hle:len≤m:=by rw [hmm];split<;>omega
  have hC:Tryz.prog.cellsOf 89=4:=by kernel_rfl
  rw [hC] at hi
  have each:∀i,i<len→∃y:CondM,(y.ok)∧∀j u,(CondM.cells y)[j]?=some u→w.cell? (a.add (i*4+j))=some u:=by
   intro i hil
   obtain ⟨cs',hc,ht⟩:=hi i (by omega)
   obtain ⟨_,hcl,hat⟩:=World.cells?_some hc
   obtain ⟨xs,n',_,_,_,hxl,hf⟩:=DataW.trod_struct Tryz.underlying89 ht
   obtain ⟨v0,v1,v2,v3,rfl⟩:∃v0 v1 v2 v3,cs'=[v0,v1,v2,v3]:=by
    match cs',hcl with
    | [v0,v1,v2,v3],_=>exact ⟨v0,v1,v2,v3,rfl⟩
   obtain ⟨y0,y1,y2,y3,rfl⟩:∃y0 y1 y2 y3,xs=[y0,y1,y2,y3]:=by
    match xs,hxl with
    | [y0,y1,y2,y3],_=>exact ⟨y0,y1,y2,y3,rfl⟩
   have f0:DataW.trod enc Tryz.prog w base spare held n' 3 [v0]=some y0:=one_field (hf 0 _ rfl) rfl rfl (by kernel_rfl) rfl
   obtain ⟨n0,e0,_,g0⟩:=DataW.trod_int Tryz.underlying3 f0
   simp only [List.cons.injEq,and_true] at e0
   subst e0
   have b0:=bounds_i64 g0
   have f1:DataW.trod enc Tryz.prog w base spare held n' 87 [v1]=some y1:=one_field (hf 1 _ rfl) rfl rfl (by kernel_rfl) rfl
   obtain ⟨n1,e1,_,g1⟩:=DataW.trod_int Tryz.underlying87 f1
   simp only [List.cons.injEq,and_true] at e1
   subst e1
   have b1:=bounds_u8 g1
   obtain ⟨m1,rfl⟩:=Int.eq_ofNat_of_zero_le b1.1
   have d1:m1<256:=by omega
   have f2:DataW.trod enc Tryz.prog w base spare held n' 57 [v2]=some y2:=one_field (hf 2 _ rfl) rfl rfl (by kernel_rfl) rfl
   obtain ⟨n2,e2,_,g2⟩:=DataW.trod_int Tryz.underlying57 f2
   simp only [List.cons.injEq,and_true] at e2
   subst e2
   have b2:=bounds_u64 g2
   obtain ⟨m2,rfl⟩:=Int.eq_ofNat_of_zero_le b2.1
   have d2:m2<18446744073709551616:=by omega
   have f3:DataW.trod enc Tryz.prog w base spare held n' 57 [v3]=some y3:=one_field (hf 3 _ rfl) rfl rfl (by kernel_rfl) rfl
   obtain ⟨n3,e3,_,g3⟩:=DataW.trod_int Tryz.underlying57 f3
   simp only [List.cons.injEq,and_true] at e3
   subst e3
   have b3:=bounds_u64 g3
   obtain ⟨m3,rfl⟩:=Int.eq_ofNat_of_zero_le b3.1
   have d3:m3<18446744073709551616:=by omega
   refine ⟨⟨n0,m1,m2,m3⟩,⟨b0.1,b0.2,d1,d2,d3⟩,fun j u hu=>?_⟩
   have hj:j<4:=(List.getElem?_eq_some_iff.1 hu).1
   have h1:=hat j (by simpa using hj)
   rw [Go.Deep.add_add] at h1
   rw [h1];exact hu
  obtain ⟨l,hl1,hl2⟩:=list_of len each
  refine ⟨l,hl1,fun i hi=>?_,rd_of (by rw [flatz_len CondM.cells 4 (fun _=>rfl),hl1]) (by omega) fun q u hu=>?_,Nat.le_trans hl hm,hl⟩
  ·obtain ⟨j,hj⟩:=List.getElem?_of_mem hi
   exact (hl2 j i hj).1
  ·have hq:q=q / 4*4+q%4:=by omega
   rw [hq,flatz CondM.cells 4 (fun _=>rfl) (by omega) l _ _ (by omega)] at hu
   obtain ⟨y,hy,hu⟩:=Option.bind_eq_some_iff.1 hu
   rw [hq]
   exact (hl2 _ y hy).2 _ _ hu
theorem open_rules (h:DataW.trod enc Tryz.prog w base spare held fuel 24 [.slice A len cap]=some x) :
  ∃l:List RuleV,l.length=len∧(∀i∈l,i.m.ok∧Rd w 4 i.m.conds.length i.A (i.m.conds.flatMap CondM.cells))∧Rd w 3 len A (l.flatMap RuleV.cells)∧len≤maxLen∧len≤cap:=by
 rcases Go.Deep.open_slice Tryz.underlying24 h with ⟨hcs,_⟩|⟨a,len',cap',m,n,D,Pl,hcs,hb,hl,hm,hmm,hx,hi⟩
 ·simp only [List.cons.injEq,Value.slice.injEq,and_true] at hcs
  obtain ⟨rfl,rfl,rfl⟩:=hcs
  exact ⟨[],rfl,by simp,Rd.nil _ _ _,by unfold maxLen;omega,Nat.le_refl _⟩
 ·simp only [List.cons.injEq,Value.slice.injEq,and_true] at hcs
  obtain ⟨rfl,rfl,rfl⟩:=hcs
  have hle:len≤m:=by rw [hmm];split<;>omega
  have hC:Tryz.prog.cellsOf 86=3:=by kernel_rfl
  rw [hC] at hi
  have each:∀i,i<len→∃y:RuleV,(y.m.ok∧Rd w 4 y.m.conds.length y.A (y.m.conds.flatMap CondM.cells))∧∀j u,(RuleV.cells y)[j]?=some u→w.cell? (a.add (i*3+j))=some u:=by
   intro i hil
   obtain ⟨cs',hc,ht⟩:=hi i (by omega)
   obtain ⟨_,hcl,hat⟩:=World.cells?_some hc
   obtain ⟨xs,n',_,_,_,hxl,hf⟩:=DataW.trod_struct Tryz.underlying86 ht
   obtain ⟨v0,v1,v2,rfl⟩:∃v0 v1 v2,cs'=[v0,v1,v2]:=by
    match cs',hcl with
    | [v0,v1,v2],_=>exact ⟨v0,v1,v2,rfl⟩
   obtain ⟨y0,y1,y2,rfl⟩:∃y0 y1 y2,xs=[y0,y1,y2]:=by
    match xs,hxl with
    | [y0,y1,y2],_=>exact ⟨y0,y1,y2,rfl⟩
   have f0:DataW.trod enc Tryz.prog w base spare held n' 22 [v0]=some y0:=one_field (hf 0 _ rfl) rfl rfl (by kernel_rfl) rfl
   obtain ⟨n0,e0,_,g0⟩:=DataW.trod_int Tryz.underlying22 f0
   simp only [List.cons.injEq,and_true] at e0
   subst e0
   have b0:=bounds_u32 g0
   obtain ⟨m0,rfl⟩:=Int.eq_ofNat_of_zero_le b0.1
   have d0:m0<4294967296:=by omega
   have f1:DataW.trod enc Tryz.prog w base spare held n' 23 [v1]=some y1:=one_field (hf 1 _ rfl) rfl rfl (by kernel_rfl) rfl
   obtain ⟨n1,e1,_,g1⟩:=DataW.trod_int Tryz.underlying23 f1
   simp only [List.cons.injEq,and_true] at e1
   subst e1
   have b1:=bounds_u32 g1
   obtain ⟨m1,rfl⟩:=Int.eq_ofNat_of_zero_le b1.1
   have d1:m1<4294967296:=by omega
   have f2:DataW.trod enc Tryz.prog w base spare held n' 84 [v2]=some y2:=one_field (hf 2 _ rfl) rfl rfl (by kernel_rfl) rfl
   obtain ⟨A2,n2,c2,rfl⟩:=slice_form Tryz.underlying84 f2
   obtain ⟨l2,hl2,hok2,hr2,hm2,hc2⟩:=open_conds f2
   subst hl2
   refine ⟨⟨⟨m0,m1,l2⟩,A2,c2⟩,⟨⟨d0,d1,hm2,hok2⟩,hr2⟩,fun j u hu=>?_⟩
   have hj:j<3:=(List.getElem?_eq_some_iff.1 hu).1
   have h1:=hat j (by simpa using hj)
   rw [Go.Deep.add_add] at h1
   rw [h1];exact hu
  obtain ⟨l,hl1,hl2⟩:=list_of len each
  refine ⟨l,hl1,fun i hi=>?_,rd_of (by rw [flatz_len RuleV.cells 3 (fun _=>rfl),hl1]) (by omega) fun q u hu=>?_,Nat.le_trans hl hm,hl⟩
  ·obtain ⟨j,hj⟩:=List.getElem?_of_mem hi
   exact (hl2 j i hj).1
  ·have hq:q=q / 3*3+q%3:=by omega
   rw [hq,flatz RuleV.cells 3 (fun _=>rfl) (by omega) l _ _ (by omega)] at hu
   obtain ⟨y,hy,hu⟩:=Option.bind_eq_some_iff.1 hu
   rw [hq]
   exact (hl2 _ y hy).2 _ _ hu
theorem open_paths (h:DataW.trod enc Tryz.prog w base spare held fuel 27 [.slice A len cap]=some x) :
  ∃l:List (Bs×Nat),l.length=len∧(∀i∈l,i.1.length≤maxLen∧i.2<65536)∧Rd w 2 len A (l.flatMap pathC)∧len≤maxLen∧len≤cap:=by
 rcases Go.Deep.open_slice Tryz.underlying27 h with ⟨hcs,_⟩|⟨a,len',cap',m,n,D,Pl,hcs,hb,hl,hm,hmm,hx,hi⟩
 ·simp only [List.cons.injEq,Value.slice.injEq,and_true] at hcs
  obtain ⟨rfl,rfl,rfl⟩:=hcs
  exact ⟨[],rfl,by simp,Rd.nil _ _ _,by unfold maxLen;omega,Nat.le_refl _⟩
 ·simp only [List.cons.injEq,Value.slice.injEq,and_true] at hcs
  obtain ⟨rfl,rfl,rfl⟩:=hcs
  have hle:len≤m:=by rw [hmm];split<;>omega
  have hC:Tryz.prog.cellsOf 96=2:=by kernel_rfl
  rw [hC] at hi
  have each:∀i,i<len→∃y:(Bs×Nat),(y.1.length≤maxLen∧y.2<65536)∧∀j u,(pathC y)[j]?=some u→w.cell? (a.add (i*2+j))=some u:=by
   intro i hil
   obtain ⟨cs',hc,ht⟩:=hi i (by omega)
   obtain ⟨_,hcl,hat⟩:=World.cells?_some hc
   obtain ⟨xs,n',_,_,_,hxl,hf⟩:=DataW.trod_struct Tryz.underlying96 ht
   obtain ⟨v0,v1,rfl⟩:∃v0 v1,cs'=[v0,v1]:=by
    match cs',hcl with
    | [v0,v1],_=>exact ⟨v0,v1,rfl⟩
   obtain ⟨y0,y1,rfl⟩:∃y0 y1,xs=[y0,y1]:=by
    match xs,hxl with
    | [y0,y1],_=>exact ⟨y0,y1,rfl⟩
   have f0:DataW.trod enc Tryz.prog w base spare held n' 9 [v0]=some y0:=one_field (hf 0 _ rfl) rfl rfl (by kernel_rfl) rfl
   obtain ⟨s0,e0,_,g0⟩:=DataW.trod_string Tryz.underlying9 f0
   simp only [List.cons.injEq,and_true] at e0
   subst e0
   obtain ⟨m0,hm0⟩:∃m:Bs,s0=⟨m.toArray⟩:=⟨s0.data.toList,by simp⟩
   subst hm0
   have b0:m0.length≤maxLen:=str_len g0
   have f1:DataW.trod enc Tryz.prog w base spare held n' 26 [v1]=some y1:=one_field (hf 1 _ rfl) rfl rfl (by kernel_rfl) rfl
   obtain ⟨n1,e1,_,g1⟩:=DataW.trod_int Tryz.underlying26 f1
   simp only [List.cons.injEq,and_true] at e1
   subst e1
   have b1:=bounds_u16 g1
   obtain ⟨m1,rfl⟩:=Int.eq_ofNat_of_zero_le b1.1
   have d1:m1<65536:=by omega
   refine ⟨(m0,m1),⟨b0,d1⟩,fun j u hu=>?_⟩
   have hj:j<2:=(List.getElem?_eq_some_iff.1 hu).1
   have h1:=hat j (by simpa using hj)
   rw [Go.Deep.add_add] at h1
   rw [h1];exact hu
  obtain ⟨l,hl1,hl2⟩:=list_of len each
  refine ⟨l,hl1,fun i hi=>?_,rd_of (by rw [flatz_len pathC 2 (fun _=>rfl),hl1]) (by omega) fun q u hu=>?_,Nat.le_trans hl hm,hl⟩
  ·obtain ⟨j,hj⟩:=List.getElem?_of_mem hi
   exact (hl2 j i hj).1
  ·have hq:q=q / 2*2+q%2:=by omega
   rw [hq,flatz pathC 2 (fun _=>rfl) (by omega) l _ _ (by omega)] at hu
   obtain ⟨y,hy,hu⟩:=Option.bind_eq_some_iff.1 hu
   rw [hq]
   exact (hl2 _ y hy).2 _ _ hu
theorem open_ports (h:DataW.trod enc Tryz.prog w base spare held fuel 28 [.slice A len cap]=some x) :
  ∃l:List (Nat×Nat),l.length=len∧(∀i∈l,i.1<65536∧i.2<65536)∧Rd w 2 len A (l.flatMap portC)∧len≤maxLen∧len≤cap:=by
 rcases Go.Deep.open_slice Tryz.underlying28 h with ⟨hcs,_⟩|⟨a,len',cap',m,n,D,Pl,hcs,hb,hl,hm,hmm,hx,hi⟩
 ·simp only [List.cons.injEq,Value.slice.injEq,and_true] at hcs
  obtain ⟨rfl,rfl,rfl⟩:=hcs
  exact ⟨[],rfl,by simp,Rd.nil _ _ _,by unfold maxLen;omega,Nat.le_refl _⟩
 ·simp only [List.cons.injEq,Value.slice.injEq,and_true] at hcs
  obtain ⟨rfl,rfl,rfl⟩:=hcs
  have hle:len≤m:=by rw [hmm];split<;>omega
  have hC:Tryz.prog.cellsOf 132=2:=by kernel_rfl
  rw [hC] at hi
  have each:∀i,i<len→∃y:(Nat×Nat),(y.1<65536∧y.2<65536)∧∀j u,(portC y)[j]?=some u→w.cell? (a.add (i*2+j))=some u:=by
   intro i hil
   obtain ⟨cs',hc,ht⟩:=hi i (by omega)
   obtain ⟨_,hcl,hat⟩:=World.cells?_some hc
   obtain ⟨xs,n',_,_,_,hxl,hf⟩:=DataW.trod_struct Tryz.underlying132 ht
   obtain ⟨v0,v1,rfl⟩:∃v0 v1,cs'=[v0,v1]:=by
    match cs',hcl with
    | [v0,v1],_=>exact ⟨v0,v1,rfl⟩
   obtain ⟨y0,y1,rfl⟩:∃y0 y1,xs=[y0,y1]:=by
    match xs,hxl with
    | [y0,y1],_=>exact ⟨y0,y1,rfl⟩
   have f0:DataW.trod enc Tryz.prog w base spare held n' 25 [v0]=some y0:=one_field (hf 0 _ rfl) rfl rfl (by kernel_rfl) rfl
   obtain ⟨n0,e0,_,g0⟩:=DataW.trod_int Tryz.underlying25 f0
   simp only [List.cons.injEq,and_true] at e0
   subst e0
   have b0:=bounds_u16 g0
   obtain ⟨m0,rfl⟩:=Int.eq_ofNat_of_zero_le b0.1
   have d0:m0<65536:=by omega
   have f1:DataW.trod enc Tryz.prog w base spare held n' 26 [v1]=some y1:=one_field (hf 1 _ rfl) rfl rfl (by kernel_rfl) rfl
   obtain ⟨n1,e1,_,g1⟩:=DataW.trod_int Tryz.underlying26 f1
   simp only [List.cons.injEq,and_true] at e1
   subst e1
   have b1:=bounds_u16 g1
   obtain ⟨m1,rfl⟩:=Int.eq_ofNat_of_zero_le b1.1
   have d1:m1<65536:=by omega
   refine ⟨(m0,m1),⟨d0,d1⟩,fun j u hu=>?_⟩
   have hj:j<2:=(List.getElem?_eq_some_iff.1 hu).1
   have h1:=hat j (by simpa using hj)
   rw [Go.Deep.add_add] at h1
   rw [h1];exact hu
  obtain ⟨l,hl1,hl2⟩:=list_of len each
  refine ⟨l,hl1,fun i hi=>?_,rd_of (by rw [flatz_len portC 2 (fun _=>rfl),hl1]) (by omega) fun q u hu=>?_,Nat.le_trans hl hm,hl⟩
  ·obtain ⟨j,hj⟩:=List.getElem?_of_mem hi
   exact (hl2 j i hj).1
  ·have hq:q=q / 2*2+q%2:=by omega
   rw [hq,flatz portC 2 (fun _=>rfl) (by omega) l _ _ (by omega)] at hu
   obtain ⟨y,hy,hu⟩:=Option.bind_eq_some_iff.1 hu
   rw [hq]
   exact (hl2 _ y hy).2 _ _ hu
theorem open_sconds (h:DataW.trod enc Tryz.prog w base spare held fuel 119 [.slice A len cap]=some x) :
  ∃l:List SC,l.length=len∧(∀i∈l,i.ok)∧Rd w 4 len A (l.flatMap SC.cells)∧len≤maxLen∧len≤cap:=by
 rcases Go.Deep.open_slice Tryz.underlying119 h with ⟨hcs,_⟩|⟨a,len',cap',m,n,D,Pl,hcs,hb,hl,hm,hmm,hx,hi⟩
 ·simp only [List.cons.injEq,Value.slice.injEq,and_true] at hcs
  obtain ⟨rfl,rfl,rfl⟩:=hcs
  exact ⟨[],rfl,by simp,Rd.nil _ _ _,by unfold maxLen;omega,Nat.le_refl _⟩
 ·simp only [List.cons.injEq,Value.slice.injEq,and_true] at hcs
  obtain ⟨rfl,rfl,rfl⟩:=hcs
  have hle:len≤m:=by rw [hmm];split<;>omega
  have hC:Tryz.prog.cellsOf 125=4:=by kernel_rfl
  rw [hC] at hi
  have each:∀i,i<len→∃y:SC,(y.ok)∧∀j u,(SC.cells y)[j]?=some u→w.cell? (a.add (i*4+j))=some u:=by
   intro i hil
   obtain ⟨cs',hc,ht⟩:=hi i (by omega)
   obtain ⟨_,hcl,hat⟩:=World.cells?_some hc
   obtain ⟨xs,n',_,_,_,hxl,hf⟩:=DataW.trod_struct Tryz.underlying125 ht
   obtain ⟨v0,v1,v2,v3,rfl⟩:∃v0 v1 v2 v3,cs'=[v0,v1,v2,v3]:=by
    match cs',hcl with
    | [v0,v1,v2,v3],_=>exact ⟨v0,v1,v2,v3,rfl⟩
   obtain ⟨y0,y1,y2,y3,rfl⟩:∃y0 y1 y2 y3,xs=[y0,y1,y2,y3]:=by
    match xs,hxl with
    | [y0,y1,y2,y3],_=>exact ⟨y0,y1,y2,y3,rfl⟩
   have f0:DataW.trod enc Tryz.prog w base spare held n' 5 [v0]=some y0:=one_field (hf 0 _ rfl) rfl rfl (by kernel_rfl) rfl
   obtain ⟨n0,e0,_,g0⟩:=DataW.trod_int Tryz.underlying5 f0
   simp only [List.cons.injEq,and_true] at e0
   subst e0
   have b0:=bounds_u8 g0
   obtain ⟨m0,rfl⟩:=Int.eq_ofNat_of_zero_le b0.1
   have d0:m0<256:=by omega
   have f1:DataW.trod enc Tryz.prog w base spare held n' 5 [v1]=some y1:=one_field (hf 1 _ rfl) rfl rfl (by kernel_rfl) rfl
   obtain ⟨n1,e1,_,g1⟩:=DataW.trod_int Tryz.underlying5 f1
   simp only [List.cons.injEq,and_true] at e1
   subst e1
   have b1:=bounds_u8 g1
   obtain ⟨m1,rfl⟩:=Int.eq_ofNat_of_zero_le b1.1
   have d1:m1<256:=by omega
   have f2:DataW.trod enc Tryz.prog w base spare held n' 5 [v2]=some y2:=one_field (hf 2 _ rfl) rfl rfl (by kernel_rfl) rfl
   obtain ⟨n2,e2,_,g2⟩:=DataW.trod_int Tryz.underlying5 f2
   simp only [List.cons.injEq,and_true] at e2
   subst e2
   have b2:=bounds_u8 g2
   obtain ⟨m2,rfl⟩:=Int.eq_ofNat_of_zero_le b2.1
   have d2:m2<256:=by omega
   have f3:DataW.trod enc Tryz.prog w base spare held n' 5 [v3]=some y3:=one_field (hf 3 _ rfl) rfl rfl (by kernel_rfl) rfl
   obtain ⟨n3,e3,_,g3⟩:=DataW.trod_int Tryz.underlying5 f3
   simp only [List.cons.injEq,and_true] at e3
   subst e3
   have b3:=bounds_u8 g3
   obtain ⟨m3,rfl⟩:=Int.eq_ofNat_of_zero_le b3.1
   have d3:m3<256:=by omega
   refine ⟨⟨m0,m1,m2,m3⟩,⟨d0,d1,d2,d3⟩,fun j u hu=>?_⟩
   have hj:j<4:=(List.getElem?_eq_some_iff.1 hu).1
   have h1:=hat j (by simpa using hj)
   rw [Go.Deep.add_add] at h1
   rw [h1];exact hu
  obtain ⟨l,hl1,hl2⟩:=list_of len each
  refine ⟨l,hl1,fun i hi=>?_,rd_of (by rw [flatz_len SC.cells 4 (fun _=>rfl),hl1]) (by omega) fun q u hu=>?_,Nat.le_trans hl hm,hl⟩
  ·obtain ⟨j,hj⟩:=List.getElem?_of_mem hi
   exact (hl2 j i hj).1
  ·have hq:q=q / 4*4+q%4:=by omega
   rw [hq,flatz SC.cells 4 (fun _=>rfl) (by omega) l _ _ (by omega)] at hu
   obtain ⟨y,hy,hu⟩:=Option.bind_eq_some_iff.1 hu
   rw [hq]
   exact (hl2 _ y hy).2 _ _ hu
theorem open_srules (h:DataW.trod enc Tryz.prog w base spare held fuel 31 [.slice A len cap]=some x) :
  ∃l:List SRV,l.length=len∧(∀i∈l,i.ok∧Rd w 4 i.conds.length i.A (i.conds.flatMap SC.cells))∧Rd w 4 len A (l.flatMap SRV.cells)∧len≤maxLen∧len≤cap:=by
 rcases Go.Deep.open_slice Tryz.underlying31 h with ⟨hcs,_⟩|⟨a,len',cap',m,n,D,Pl,hcs,hb,hl,hm,hmm,hx,hi⟩
 ·simp only [List.cons.injEq,Value.slice.injEq,and_true] at hcs
  obtain ⟨rfl,rfl,rfl⟩:=hcs
  exact ⟨[],rfl,by simp,Rd.nil _ _ _,by unfold maxLen;omega,Nat.le_refl _⟩
 ·simp only [List.cons.injEq,Value.slice.injEq,and_true] at hcs
  obtain ⟨rfl,rfl,rfl⟩:=hcs
  have hle:len≤m:=by rw [hmm];split<;>omega
  have hC:Tryz.prog.cellsOf 121=4:=by kernel_rfl
  rw [hC] at hi
  have each:∀i,i<len→∃y:SRV,(y.ok∧Rd w 4 y.conds.length y.A (y.conds.flatMap SC.cells))∧∀j u,(SRV.cells y)[j]?=some u→w.cell? (a.add (i*4+j))=some u:=by
   intro i hil
   obtain ⟨cs',hc,ht⟩:=hi i (by omega)
   obtain ⟨_,hcl,hat⟩:=World.cells?_some hc
   obtain ⟨xs,n',_,_,_,hxl,hf⟩:=DataW.trod_struct Tryz.underlying121 ht
   obtain ⟨v0,v1,v2,v3,rfl⟩:∃v0 v1 v2 v3,cs'=[v0,v1,v2,v3]:=by
    match cs',hcl with
    | [v0,v1,v2,v3],_=>exact ⟨v0,v1,v2,v3,rfl⟩
   obtain ⟨y0,y1,y2,y3,rfl⟩:∃y0 y1 y2 y3,xs=[y0,y1,y2,y3]:=by
    match xs,hxl with
    | [y0,y1,y2,y3],_=>exact ⟨y0,y1,y2,y3,rfl⟩
   have f0:DataW.trod enc Tryz.prog w base spare held n' 5 [v0]=some y0:=one_field (hf 0 _ rfl) rfl rfl (by kernel_rfl) rfl
   obtain ⟨n0,e0,_,g0⟩:=DataW.trod_int Tryz.underlying5 f0
   simp only [List.cons.injEq,and_true] at e0
   subst e0
   have b0:=bounds_u8 g0
   obtain ⟨m0,rfl⟩:=Int.eq_ofNat_of_zero_le b0.1
   have d0:m0<256:=by omega
   have f1:DataW.trod enc Tryz.prog w base spare held n' 5 [v1]=some y1:=one_field (hf 1 _ rfl) rfl rfl (by kernel_rfl) rfl
   obtain ⟨n1,e1,_,g1⟩:=DataW.trod_int Tryz.underlying5 f1
   simp only [List.cons.injEq,and_true] at e1
   subst e1
   have b1:=bounds_u8 g1
   obtain ⟨m1,rfl⟩:=Int.eq_ofNat_of_zero_le b1.1
   have d1:m1<256:=by omega
   have f2:DataW.trod enc Tryz.prog w base spare held n' 5 [v2]=some y2:=one_field (hf 2 _ rfl) rfl rfl (by kernel_rfl) rfl
   obtain ⟨n2,e2,_,g2⟩:=DataW.trod_int Tryz.underlying5 f2
   simp only [List.cons.injEq,and_true] at e2
   subst e2
   have b2:=bounds_u8 g2
   obtain ⟨m2,rfl⟩:=Int.eq_ofNat_of_zero_le b2.1
   have d2:m2<256:=by omega
   have f3:DataW.trod enc Tryz.prog w base spare held n' 119 [v3]=some y3:=one_field (hf 3 _ rfl) rfl rfl (by kernel_rfl) rfl
   obtain ⟨A3,n3,c3,rfl⟩:=slice_form Tryz.underlying119 f3
   obtain ⟨l3,hl3,hok3,hr3,hm3,hc3⟩:=open_sconds f3
   subst hl3
   refine ⟨⟨m0,m1,m2,l3,A3,c3⟩,⟨⟨d0,d1,d2,hm3,hok3⟩,hr3⟩,fun j u hu=>?_⟩
   have hj:j<4:=(List.getElem?_eq_some_iff.1 hu).1
   have h1:=hat j (by simpa using hj)
   rw [Go.Deep.add_add] at h1
   rw [h1];exact hu
  obtain ⟨l,hl1,hl2⟩:=list_of len each
  refine ⟨l,hl1,fun i hi=>?_,rd_of (by rw [flatz_len SRV.cells 4 (fun _=>rfl),hl1]) (by omega) fun q u hu=>?_,Nat.le_trans hl hm,hl⟩
  ·obtain ⟨j,hj⟩:=List.getElem?_of_mem hi
   exact (hl2 j i hj).1
  ·have hq:q=q / 4*4+q%4:=by omega
   rw [hq,flatz SRV.cells 4 (fun _=>rfl) (by omega) l _ _ (by omega)] at hu
   obtain ⟨y,hy,hu⟩:=Option.bind_eq_some_iff.1 hu
   rw [hq]
   exact (hl2 _ y hy).2 _ _ hu
theorem open_u8l (h:DataW.trod enc Tryz.prog w base spare held fuel 32 [.slice A len cap]=some x) :
  ∃l:List Nat,l.length=len∧(∀i∈l,i<256)∧Rd w 1 len A (u8s l)∧len≤maxLen∧len≤cap:=by
 rcases Go.Deep.open_slice Tryz.underlying32 h with ⟨hcs,_⟩|⟨a,len',cap',m,n,D,Pl,hcs,hb,hl,hm,hmm,hx,hi⟩
 ·simp only [List.cons.injEq,Value.slice.injEq,and_true] at hcs
  obtain ⟨rfl,rfl,rfl⟩:=hcs
  exact ⟨[],rfl,by simp,Rd.nil _ _ _,by unfold maxLen;omega,Nat.le_refl _⟩
 ·simp only [List.cons.injEq,Value.slice.injEq,and_true] at hcs
  obtain ⟨rfl,rfl,rfl⟩:=hcs
  have hle:len≤m:=by rw [hmm];split<;>omega
  have hC:Tryz.prog.cellsOf 5=1:=by kernel_rfl
  rw [hC] at hi
  have each:∀i,i<len→∃y:Nat,y<256∧w.cell? (a.add i)=some (.int .u8 y):=by
   intro i hil
   obtain ⟨cs',hc,ht⟩:=hi i (by omega)
   obtain ⟨_,hcl,hat⟩:=World.cells?_some hc
   obtain ⟨v0,rfl⟩:∃v0,cs'=[v0]:=by
    match cs',hcl with
    | [v0],_=>exact ⟨v0,rfl⟩
   obtain ⟨n0,e0,_,g0⟩:=DataW.trod_int Tryz.underlying5 ht
   simp only [List.cons.injEq,and_true] at e0
   subst e0
   have b0:=bounds_u8 g0
   obtain ⟨m0,rfl⟩:=Int.eq_ofNat_of_zero_le b0.1
   refine ⟨m0,by omega,?_⟩
   have h1:=hat 0 (by simp)
   rw [Go.Deep.add_add] at h1
   simpa using h1
  obtain ⟨l,hl1,hl2⟩:=list_of len each
  refine ⟨l,hl1,fun i hi=>?_,rd_of (by simp [u8s,hl1]) (by omega) fun q u hu=>?_,Nat.le_trans hl hm,hl⟩
  ·obtain ⟨j,hj⟩:=List.getElem?_of_mem hi
   exact (hl2 j i hj).1
  ·unfold u8s at hu
   rw [List.getElem?_map] at hu
   obtain ⟨y,hy,hu⟩:=Option.map_eq_some_iff.1 hu
   rw [←hu]
   exact (hl2 q y hy).2
theorem open_u16l (h:DataW.trod enc Tryz.prog w base spare held fuel 33 [.slice A len cap]=some x) :
  ∃l:List Nat,l.length=len∧(∀i∈l,i<65536)∧Rd w 1 len A (u16s l)∧len≤maxLen∧len≤cap:=by
 rcases Go.Deep.open_slice Tryz.underlying33 h with ⟨hcs,_⟩|⟨a,len',cap',m,n,D,Pl,hcs,hb,hl,hm,hmm,hx,hi⟩
 ·simp only [List.cons.injEq,Value.slice.injEq,and_true] at hcs
  obtain ⟨rfl,rfl,rfl⟩:=hcs
  exact ⟨[],rfl,by simp,Rd.nil _ _ _,by unfold maxLen;omega,Nat.le_refl _⟩
 ·simp only [List.cons.injEq,Value.slice.injEq,and_true] at hcs
  obtain ⟨rfl,rfl,rfl⟩:=hcs
  have hle:len≤m:=by rw [hmm];split<;>omega
  have hC:Tryz.prog.cellsOf 25=1:=by kernel_rfl
  rw [hC] at hi
  have each:∀i,i<len→∃y:Nat,y<65536∧w.cell? (a.add i)=some (.int .u16 y):=by
   intro i hil
   obtain ⟨cs',hc,ht⟩:=hi i (by omega)
   obtain ⟨_,hcl,hat⟩:=World.cells?_some hc
   obtain ⟨v0,rfl⟩:∃v0,cs'=[v0]:=by
    match cs',hcl with
    | [v0],_=>exact ⟨v0,rfl⟩
   obtain ⟨n0,e0,_,g0⟩:=DataW.trod_int Tryz.underlying25 ht
   simp only [List.cons.injEq,and_true] at e0
   subst e0
   have b0:=bounds_u16 g0
   obtain ⟨m0,rfl⟩:=Int.eq_ofNat_of_zero_le b0.1
   refine ⟨m0,by omega,?_⟩
   have h1:=hat 0 (by simp)
   rw [Go.Deep.add_add] at h1
   simpa using h1
  obtain ⟨l,hl1,hl2⟩:=list_of len each
  refine ⟨l,hl1,fun i hi=>?_,rd_of (by simp [u16s,hl1]) (by omega) fun q u hu=>?_,Nat.le_trans hl hm,hl⟩
  ·obtain ⟨j,hj⟩:=List.getElem?_of_mem hi
   exact (hl2 j i hj).1
  ·unfold u16s at hu
   rw [List.getElem?_map] at hu
   obtain ⟨y,hy,hu⟩:=Option.map_eq_some_iff.1 hu
   rw [←hu]
   exact (hl2 q y hy).2
theorem open_policy {r:Go.Reach}{b0:Nat}{v:Value}{d:DataW H}{pp:List MemPlace}(hv:Value.okWide Tryz.prog w r b0 30 v)(h:DataW.Trod enc Tryz.prog w base spare held 30 v d pp):∃(nm:Bs) (dflt:Nat) (rules:List RuleV) (RA:Option Addr) (Rc hd:Nat) (paths:List (Bs×Nat)) (PA:Option Addr) (Pc:Nat) (ports:List (Nat×Nat)) (QA:Option Addr) (Qc:Nat),
   v=.agg #[.string ⟨nm.toArray⟩,.int .u32 dflt,.slice RA rules.length Rc,.int .u16 hd,.slice PA paths.length Pc,.slice QA ports.length Qc] ∧
   nm.length≤maxLen∧dflt<4294967296∧rules.length≤maxLen∧paths.length≤maxLen∧ports.length≤maxLen∧hd<65536∧paths.length≤Pc∧ports.length≤Qc ∧
   (∀r∈rules,r.m.ok)∧(∀x∈paths,x.1.length≤maxLen∧x.2<65536)∧(∀x∈ports,x.1<65536∧x.2<65536)∧Reads w ⟨nm,dflt,rules,RA,Rc,hd,paths,PA,Pc,ports,QA,Qc⟩:=by
 obtain ⟨cs,rfl,hsz⟩:=okWide_struct Tryz.underlying30 hv
 have hC:Tryz.prog.cellsOf 30=6:=by kernel_rfl
 obtain ⟨l⟩:=cs
 match l,hsz.trans hC with
 | [v0,v1,v2,v3,v4,v5],_=>
  obtain ⟨fuel,hf⟩:=h
  obtain ⟨xs,n',_,_,_,hlen,hg⟩:=DataW.trod_struct Tryz.underlying30 hf
  match xs,hlen with
  | [y0,y1,y2,y3,y4,y5],_=>
   have f0:DataW.trod enc Tryz.prog w base spare held n' 9 [v0]=some y0:=one_field (hg 0 _ rfl) rfl rfl (by kernel_rfl) rfl
   obtain ⟨s0,e0,_,g0⟩:=DataW.trod_string Tryz.underlying9 f0
   simp only [List.cons.injEq,and_true] at e0
   subst e0
   obtain ⟨m0,hm0⟩:∃m:Bs,s0=⟨m.toArray⟩:=⟨s0.data.toList,by simp⟩
   subst hm0
   have b0:m0.length≤maxLen:=str_len g0
   have f1:DataW.trod enc Tryz.prog w base spare held n' 23 [v1]=some y1:=one_field (hg 1 _ rfl) rfl rfl (by kernel_rfl) rfl
   obtain ⟨n1,e1,_,g1⟩:=DataW.trod_int Tryz.underlying23 f1
   simp only [List.cons.injEq,and_true] at e1
   subst e1
   have b1:=bounds_u32 g1
   obtain ⟨m1,rfl⟩:=Int.eq_ofNat_of_zero_le b1.1
   have d1:m1<4294967296:=by omega
   have f2:DataW.trod enc Tryz.prog w base spare held n' 24 [v2]=some y2:=one_field (hg 2 _ rfl) rfl rfl (by kernel_rfl) rfl
   obtain ⟨A2,n2,c2,rfl⟩:=slice_form Tryz.underlying24 f2
   obtain ⟨l2,hl2,hok2,hr2,hm2,hc2⟩:=open_rules f2
   subst hl2
   have f3:DataW.trod enc Tryz.prog w base spare held n' 26 [v3]=some y3:=one_field (hg 3 _ rfl) rfl rfl (by kernel_rfl) rfl
   obtain ⟨n3,e3,_,g3⟩:=DataW.trod_int Tryz.underlying26 f3
   simp only [List.cons.injEq,and_true] at e3
   subst e3
   have b3:=bounds_u16 g3
   obtain ⟨m3,rfl⟩:=Int.eq_ofNat_of_zero_le b3.1
   have d3:m3<65536:=by omega
   have f4:DataW.trod enc Tryz.prog w base spare held n' 27 [v4]=some y4:=one_field (hg 4 _ rfl) rfl rfl (by kernel_rfl) rfl
   obtain ⟨A4,n4,c4,rfl⟩:=slice_form Tryz.underlying27 f4
   obtain ⟨l4,hl4,hok4,hr4,hm4,hc4⟩:=open_paths f4
   subst hl4
   have f5:DataW.trod enc Tryz.prog w base spare held n' 28 [v5]=some y5:=one_field (hg 5 _ rfl) rfl rfl (by kernel_rfl) rfl
   obtain ⟨A5,n5,c5,rfl⟩:=slice_form Tryz.underlying28 f5
   obtain ⟨l5,hl5,hok5,hr5,hm5,hc5⟩:=open_ports f5
   subst hl5
   exact ⟨m0,m1,l2,A2,c2,m3,l4,A4,c4,l5,A5,c5,rfl,b0,d1,hm2,hm4,hm5,d3,hc4,hc5,fun r hr=>(hok2 r hr).1,hok4,hok5,⟨hr2,fun r hr=>(hok2 r hr).2,hr4,hr5⟩⟩
theorem open_small {r:Go.Reach}{b0:Nat}{v:Value}{d:DataW H}{pp:List MemPlace}(hv:Value.okWide Tryz.prog w r b0 35 v)(h:DataW.Trod enc Tryz.prog w base spare held 35 v d pp):∃(ni df er hh:Nat) (srs:List SRV) (SA:Option Addr) (sc:Nat) (dl:List Nat) (DA:Option Addr) (dc:Nat) (gl:List Nat) (GA:Option Addr) (gc:Nat) (pl:List Nat) (PA:Option Addr) (pc:Nat),
   v=.agg #[.int .u8 ni,.int .u8 df,.int .u8 er,.slice SA srs.length sc,.int .u16 hh,.slice DA dl.length dc,.slice GA gl.length gc,.slice PA pl.length pc] ∧
   ni<256∧df<256∧er<256∧hh<65536∧srs.length≤maxLen∧dl.length≤maxLen∧gl.length≤maxLen∧pl.length≤maxLen∧(∀r∈srs,r.ok)∧(∀x∈dl,x<256)∧(∀x∈gl,x<65536)∧(∀x∈pl,x<256) ∧
   Rd w 4 srs.length SA (srs.flatMap SRV.cells)∧(∀r∈srs,Rd w 4 r.conds.length r.A (r.conds.flatMap SC.cells))∧Rd w 1 dl.length DA (u8s dl)∧Rd w 1 gl.length GA (u16s gl)∧Rd w 1 pl.length PA (u8s pl):=by
 obtain ⟨cs,rfl,hsz⟩:=okWide_struct Tryz.underlying35 hv
 have hC:Tryz.prog.cellsOf 35=8:=by kernel_rfl
 obtain ⟨l⟩:=cs
 match l,hsz.trans hC with
 | [v0,v1,v2,v3,v4,v5,v6,v7],_=>
  obtain ⟨fuel,hf⟩:=h
  obtain ⟨xs,n',_,_,_,hlen,hg⟩:=DataW.trod_struct Tryz.underlying35 hf
  match xs,hlen with
  | [y0,y1,y2,y3,y4,y5,y6,y7],_=>
   have f0:DataW.trod enc Tryz.prog w base spare held n' 5 [v0]=some y0:=one_field (hg 0 _ rfl) rfl rfl (by kernel_rfl) rfl
   obtain ⟨n0,e0,_,g0⟩:=DataW.trod_int Tryz.underlying5 f0
   simp only [List.cons.injEq,and_true] at e0
   subst e0
   have b0:=bounds_u8 g0
   obtain ⟨m0,rfl⟩:=Int.eq_ofNat_of_zero_le b0.1
   have d0:m0<256:=by omega
   have f1:DataW.trod enc Tryz.prog w base spare held n' 5 [v1]=some y1:=one_field (hg 1 _ rfl) rfl rfl (by kernel_rfl) rfl
   obtain ⟨n1,e1,_,g1⟩:=DataW.trod_int Tryz.underlying5 f1
   simp only [List.cons.injEq,and_true] at e1
   subst e1
   have b1:=bounds_u8 g1
   obtain ⟨m1,rfl⟩:=Int.eq_ofNat_of_zero_le b1.1
   have d1:m1<256:=by omega
   have f2:DataW.trod enc Tryz.prog w base spare held n' 5 [v2]=some y2:=one_field (hg 2 _ rfl) rfl rfl (by kernel_rfl) rfl
   obtain ⟨n2,e2,_,g2⟩:=DataW.trod_int Tryz.underlying5 f2
   simp only [List.cons.injEq,and_true] at e2
   subst e2
   have b2:=bounds_u8 g2
   obtain ⟨m2,rfl⟩:=Int.eq_ofNat_of_zero_le b2.1
   have d2:m2<256:=by omega
   have f3:DataW.trod enc Tryz.prog w base spare held n' 31 [v3]=some y3:=one_field (hg 3 _ rfl) rfl rfl (by kernel_rfl) rfl
   obtain ⟨A3,n3,c3,rfl⟩:=slice_form Tryz.underlying31 f3
   obtain ⟨l3,hl3,hok3,hr3,hm3,hc3⟩:=open_srules f3
   subst hl3
   have f4:DataW.trod enc Tryz.prog w base spare held n' 25 [v4]=some y4:=one_field (hg 4 _ rfl) rfl rfl (by kernel_rfl) rfl
   obtain ⟨n4,e4,_,g4⟩:=DataW.trod_int Tryz.underlying25 f4
   simp only [List.cons.injEq,and_true] at e4
   subst e4
   have b4:=bounds_u16 g4
   obtain ⟨m4,rfl⟩:=Int.eq_ofNat_of_zero_le b4.1
   have d4:m4<65536:=by omega
   have f5:DataW.trod enc Tryz.prog w base spare held n' 32 [v5]=some y5:=one_field (hg 5 _ rfl) rfl rfl (by kernel_rfl) rfl
   obtain ⟨A5,n5,c5,rfl⟩:=slice_form Tryz.underlying32 f5
   obtain ⟨l5,hl5,hok5,hr5,hm5,hc5⟩:=open_u8l f5
   subst hl5
   have f6:DataW.trod enc Tryz.prog w base spare held n' 33 [v6]=some y6:=one_field (hg 6 _ rfl) rfl rfl (by kernel_rfl) rfl
   obtain ⟨A6,n6,c6,rfl⟩:=slice_form Tryz.underlying33 f6
   obtain ⟨l6,hl6,hok6,hr6,hm6,hc6⟩:=open_u16l f6
   subst hl6
   have f7:DataW.trod enc Tryz.prog w base spare held n' 32 [v7]=some y7:=one_field (hg 7 _ rfl) rfl rfl (by kernel_rfl) rfl
   obtain ⟨A7,n7,c7,rfl⟩:=slice_form Tryz.underlying32 f7
   obtain ⟨l7,hl7,hok7,hr7,hm7,hc7⟩:=open_u8l f7
   subst hl7
   exact ⟨m0,m1,m2,m4,l3,A3,c3,l5,A5,c5,l6,A6,c6,l7,A7,c7,rfl,d0,d1,d2,d4,hm3,hm5,hm6,hm7,fun r hr=>(hok3 r hr).1,hok5,hok6,hok7,hr3,fun r hr=>(hok3 r hr).2,hr5,hr6,hr7⟩
end
end Go.Proofs.YtcnebdjhhfnmoaaGreatDoor
