/- What the law is handed: policies, policies of small numbers, conditions. -/
import Derived.Test.YtcnebdjhhfnmoaaGreatDoorK21
import Derived.Deep.Slices
import Derived.ChangeArms
import Derived.ChangeSlices
import Derived.DataReads
import Derived.ProofKit
import Derived.ChangeOld
import Derived.SliceStrings
import Derived.OpenShut
import Derived.Test.YtcnebdjhhfnmoaaGreatDoorK14
import Derived.Test.YtcnebdjhhfnmoaaGreatDoorK20
import Derived.Test.YtcnebdjhhfnmoaaGreatDoorK37
set_option linter.unusedSimpArgs false
set_option maxHeartbeats 32000000
set_option maxRecDepth 100000
namespace Go.Proofs.YtcnebdjhhfnmoaaGreatDoor
open Go.ChangeShapes Go.WideShapes Go.ChangeAt Go.RowKit Go.Deep
theorem list_of {α:Type} {Q:Nat→α→Prop}:∀(n:Nat),(∀i,i<n→∃x,Q i x)→∃l:List α,l.length=n∧∀i x,l[i]?=some x→Q i x
 | 0,_=>⟨[],rfl,fun i x h=>by simp at h⟩
 | n+1,h=>by
  obtain ⟨l,hl,hq⟩:=list_of n (fun i hi=>h i (by omega))
  obtain ⟨x,hx⟩:=h n (by omega)
  refine ⟨l++[x],by simp [hl],fun i y hy=>?_⟩
  by_cases hi:i<n
  ·rw [List.getElem?_append_left (by omega)] at hy;exact hq i y hy
  ·have:i=n:=by
    have:=(List.getElem?_eq_some_iff.1 hy).1
    simp at this;omega
   subst this
   rw [List.getElem?_append_right (by omega),hl] at hy
   simp at hy;subst hy;exact hx
section
variable {H:Type} {enc:TypeId×Value→H} {w:World} {base:Nat} {spare:Nat→Bool} {held:Bool} {fuel:Nat} {x:DataW H×List MemPlace} {A:Option Addr} {len cap:Nat}
theorem one_field {f:Field} {T k:Nat} {cs:List Value} {v:Value} {y:Option (DataW H×List MemPlace)} (h:DataW.trod enc Tryz.prog w base spare held fuel f.type ((cs.drop f.offset).take (Tryz.prog.cellsOf f.type))=y)
  (hT:f.type=T) (hk:f.offset=k) (hc:Tryz.prog.cellsOf T=1) (hv:(cs.drop k).take 1=[v]):DataW.trod enc Tryz.prog w base spare held fuel T [v]=y:=by
 subst hT hk
 rwa [hc,hv] at h
theorem slice_form {T e:TypeId} (hu:Tryz.prog.underlying T=some (.slice e)) {v:Value} (h:DataW.trod enc Tryz.prog w base spare held fuel T [v]=some x):∃A len cap,v=.slice A len cap:=by
 rcases Go.Deep.open_slice hu h with ⟨hcs,_⟩|⟨a,len,cap,m,n,D,Pl,hcs,_⟩
 ·simp only [List.cons.injEq,and_true] at hcs;exact ⟨_,_,_,hcs⟩
 ·simp only [List.cons.injEq,and_true] at hcs;exact ⟨_,_,_,hcs⟩
theorem open_sconds (h:DataW.trod enc Tryz.prog w base spare held fuel 119 [.slice A len cap]=some x) :
  ∃l:List SC,l.length=len∧(∀i∈l,i.ok)∧Rd w 4 len A (l.flatMap SC.cells)∧len≤maxLen∧len≤cap:=by
 rcases Go.Deep.open_slice Tryz.underlying119 h with ⟨hcs,_⟩|⟨a,len',cap',m,n,D,Pl,hcs,hb,hl,hm,hmm,hx,hi⟩
 ·simp only [List.cons.injEq,Value.slice.injEq,and_true] at hcs
  obtain ⟨rfl,rfl,rfl⟩:=hcs
  exact ⟨[],rfl,by simp,Rd.nil _ _ _,by unfold maxLen;omega,Nat.le_refl _⟩
 ·simp only [List.cons.injEq,Value.slice.injEq,and_true] at hcs
  obtain ⟨rfl,rfl,rfl⟩:=hcs
  have hle:len≤m:=by rw [hmm];split<;>omega
  have hC:Tryz.prog.cellsOf 125=4:=by kernel_rfl
  rw [hC] at hi
  have each:∀i,i<len→∃y:SC,(y.ok)∧∀j u,(SC.cells y)[j]?=some u→w.cell? (a.add (i*4+j))=some u:=by
   intro i hil
   obtain ⟨cs',hc,ht⟩:=hi i (by omega)
   obtain ⟨_,hcl,hat⟩:=World.cells?_some hc
   obtain ⟨xs,n',_,_,_,hxl,hf⟩:=DataW.trod_struct Tryz.underlying125 ht
   obtain ⟨v0,v1,v2,v3,rfl⟩:∃v0 v1 v2 v3,cs'=[v0,v1,v2,v3]:=by
    match cs',hcl with
    | [v0,v1,v2,v3],_=>exact ⟨v0,v1,v2,v3,rfl⟩
   obtain ⟨y0,y1,y2,y3,rfl⟩:∃y0 y1 y2 y3,xs=[y0,y1,y2,y3]:=by
    match xs,hxl with
    | [y0,y1,y2,y3],_=>exact ⟨y0,y1,y2,y3,rfl⟩
   have f0:DataW.trod enc Tryz.prog w base spare held n' 5 [v0]=some y0:=one_field (hf 0 _ rfl) rfl rfl (by kernel_rfl) rfl
   obtain ⟨n0,e0,_,g0⟩:=DataW.trod_int Tryz.underlying5 f0
   simp only [List.cons.injEq,and_true] at e0
   subst e0
   have b0:=bounds_u8 g0
   obtain ⟨m0,rfl⟩:=Int.eq_ofNat_of_zero_le b0.1
   have d0:m0<256:=by omega
   have f1:DataW.trod enc Tryz.prog w base spare held n' 5 [v1]=some y1:=one_field (hf 1 _ rfl) rfl rfl (by kernel_rfl) rfl
   obtain ⟨n1,e1,_,g1⟩:=DataW.trod_int Tryz.underlying5 f1
   simp only [List.cons.injEq,and_true] at e1
   subst e1
   have b1:=bounds_u8 g1
   obtain ⟨m1,rfl⟩:=Int.eq_ofNat_of_zero_le b1.1
   have d1:m1<256:=by omega
   have f2:DataW.trod enc Tryz.prog w base spare held n' 5 [v2]=some y2:=one_field (hf 2 _ rfl) rfl rfl (by kernel_rfl) rfl
   obtain ⟨n2,e2,_,g2⟩:=DataW.trod_int Tryz.underlying5 f2
   simp only [List.cons.injEq,and_true] at e2
   subst e2
   have b2:=bounds_u8 g2
   obtain ⟨m2,rfl⟩:=Int.eq_ofNat_of_zero_le b2.1
   have d2:m2<256:=by omega
   have f3:DataW.trod enc Tryz.prog w base spare held n' 5 [v3]=some y3:=one_field (hf 3 _ rfl) rfl rfl (by kernel_rfl) rfl
   obtain ⟨n3,e3,_,g3⟩:=DataW.trod_int Tryz.underlying5 f3
   simp only [List.cons.injEq,and_true] at e3
   subst e3
   have b3:=bounds_u8 g3
   obtain ⟨m3,rfl⟩:=Int.eq_ofNat_of_zero_le b3.1
   have d3:m3<256:=by omega
   refine ⟨⟨m0,m1,m2,m3⟩,⟨d0,d1,d2,d3⟩,fun j u hu=>?_⟩
   have hj:j<4:=(List.getElem?_eq_some_iff.1 hu).1
   have h1:=hat j (by simpa using hj)
   rw [Go.Deep.add_add] at h1
   rw [h1];exact hu
  obtain ⟨l,hl1,hl2⟩:=list_of len each
  refine ⟨l,hl1,fun i hi=>?_,rd_of (by rw [flatz_len SC.cells 4 (fun _=>rfl),hl1]) (by omega) fun q u hu=>?_,Nat.le_trans hl hm,hl⟩
  ·obtain ⟨j,hj⟩:=List.getElem?_of_mem hi
   exact (hl2 j i hj).1
  ·have hq:q=q / 4*4+q%4:=by omega
   rw [hq,flatz SC.cells 4 (fun _=>rfl) (by omega) l _ _ (by omega)] at hu
   obtain ⟨y,hy,hu⟩:=Option.bind_eq_some_iff.1 hu
   rw [hq]
   exact (hl2 _ y hy).2 _ _ hu
theorem open_srules (h:DataW.trod enc Tryz.prog w base spare held fuel 31 [.slice A len cap]=some x) :
  ∃l:List SRV,l.length=len∧(∀i∈l,i.ok∧Rd w 4 i.conds.length i.A (i.conds.flatMap SC.cells))∧Rd w 4 len A (l.flatMap SRV.cells)∧len≤maxLen∧len≤cap:=by
 rcases Go.Deep.open_slice Tryz.underlying31 h with ⟨hcs,_⟩|⟨a,len',cap',m,n,D,Pl,hcs,hb,hl,hm,hmm,hx,hi⟩
 ·simp only [List.cons.injEq,Value.slice.injEq,and_true] at hcs
  obtain ⟨rfl,rfl,rfl⟩:=hcs
  exact ⟨[],rfl,by simp,Rd.nil _ _ _,by unfold maxLen;omega,Nat.le_refl _⟩
 ·simp only [List.cons.injEq,Value.slice.injEq,and_true] at hcs
  obtain ⟨rfl,rfl,rfl⟩:=hcs
  have hle:len≤m:=by rw [hmm];split<;>omega
  have hC:Tryz.prog.cellsOf 121=4:=by kernel_rfl
  rw [hC] at hi
  have each:∀i,i<len→∃y:SRV,(y.ok∧Rd w 4 y.conds.length y.A (y.conds.flatMap SC.cells))∧∀j u,(SRV.cells y)[j]?=some u→w.cell? (a.add (i*4+j))=some u:=by
   intro i hil
   obtain ⟨cs',hc,ht⟩:=hi i (by omega)
   obtain ⟨_,hcl,hat⟩:=World.cells?_some hc
   obtain ⟨xs,n',_,_,_,hxl,hf⟩:=DataW.trod_struct Tryz.underlying121 ht
   obtain ⟨v0,v1,v2,v3,rfl⟩:∃v0 v1 v2 v3,cs'=[v0,v1,v2,v3]:=by
    match cs',hcl with
    | [v0,v1,v2,v3],_=>exact ⟨v0,v1,v2,v3,rfl⟩
   obtain ⟨y0,y1,y2,y3,rfl⟩:∃y0 y1 y2 y3,xs=[y0,y1,y2,y3]:=by
    match xs,hxl with
    | [y0,y1,y2,y3],_=>exact ⟨y0,y1,y2,y3,rfl⟩
   have f0:DataW.trod enc Tryz.prog w base spare held n' 5 [v0]=some y0:=one_field (hf 0 _ rfl) rfl rfl (by kernel_rfl) rfl
   obtain ⟨n0,e0,_,g0⟩:=DataW.trod_int Tryz.underlying5 f0
   simp only [List.cons.injEq,and_true] at e0
   subst e0
   have b0:=bounds_u8 g0
   obtain ⟨m0,rfl⟩:=Int.eq_ofNat_of_zero_le b0.1
   have d0:m0<256:=by omega
   have f1:DataW.trod enc Tryz.prog w base spare held n' 5 [v1]=some y1:=one_field (hf 1 _ rfl) rfl rfl (by kernel_rfl) rfl
   obtain ⟨n1,e1,_,g1⟩:=DataW.trod_int Tryz.underlying5 f1
   simp only [List.cons.injEq,and_true] at e1
   subst e1
   have b1:=bounds_u8 g1
   obtain ⟨m1,rfl⟩:=Int.eq_ofNat_of_zero_le b1.1
   have d1:m1<256:=by omega
   have f2:DataW.trod enc Tryz.prog w base spare held n' 5 [v2]=some y2:=one_field (hf 2 _ rfl) rfl rfl (by kernel_rfl) rfl
   obtain ⟨n2,e2,_,g2⟩:=DataW.trod_int Tryz.underlying5 f2
   simp only [List.cons.injEq,and_true] at e2
   subst e2
   have b2:=bounds_u8 g2
   obtain ⟨m2,rfl⟩:=Int.eq_ofNat_of_zero_le b2.1
   have d2:m2<256:=by omega
   have f3:DataW.trod enc Tryz.prog w base spare held n' 119 [v3]=some y3:=one_field (hf 3 _ rfl) rfl rfl (by kernel_rfl) rfl
   obtain ⟨A3,n3,c3,rfl⟩:=slice_form Tryz.underlying119 f3
   obtain ⟨l3,hl3,hok3,hr3,hm3,hc3⟩:=open_sconds f3
   subst hl3
   refine ⟨⟨m0,m1,m2,l3,A3,c3⟩,⟨⟨d0,d1,d2,hm3,hok3⟩,hr3⟩,fun j u hu=>?_⟩
   have hj:j<4:=(List.getElem?_eq_some_iff.1 hu).1
   have h1:=hat j (by simpa using hj)
   rw [Go.Deep.add_add] at h1
   rw [h1];exact hu
  obtain ⟨l,hl1,hl2⟩:=list_of len each
  refine ⟨l,hl1,fun i hi=>?_,rd_of (by rw [flatz_len SRV.cells 4 (fun _=>rfl),hl1]) (by omega) fun q u hu=>?_,Nat.le_trans hl hm,hl⟩
  ·obtain ⟨j,hj⟩:=List.getElem?_of_mem hi
   exact (hl2 j i hj).1
  ·have hq:q=q / 4*4+q%4:=by omega
   rw [hq,flatz SRV.cells 4 (fun _=>rfl) (by omega) l _ _ (by omega)] at hu
   obtain ⟨y,hy,hu⟩:=Option.bind_eq_some_iff.1 hu
   rw [hq]
   exact (hl2 _ y hy).2 _ _ hu
theorem open_u8l (h:DataW.trod enc Tryz.prog w base spare held fuel 32 [.slice A len cap]=some x) :
  ∃l:List Nat,l.length=len∧(∀i∈l,i<256)∧Rd w 1 len A (u8s l)∧len≤maxLen∧len≤cap:=by
 rcases Go.Deep.open_slice Tryz.underlying32 h with ⟨hcs,_⟩|⟨a,len',cap',m,n,D,Pl,hcs,hb,hl,hm,hmm,hx,hi⟩
 ·simp only [List.cons.injEq,Value.slice.injEq,and_true] at hcs
  obtain ⟨rfl,rfl,rfl⟩:=hcs
  exact ⟨[],rfl,by simp,Rd.nil _ _ _,by unfold maxLen;omega,Nat.le_refl _⟩
 ·simp only [List.cons.injEq,Value.slice.injEq,and_true] at hcs
  obtain ⟨rfl,rfl,rfl⟩:=hcs
  have hle:len≤m:=by rw [hmm];split<;>omega
  have hC:Tryz.prog.cellsOf 5=1:=by kernel_rfl
  rw [hC] at hi
  have each:∀i,i<len→∃y:Nat,y<256∧w.cell? (a.add i)=some (.int .u8 y):=by
   intro i hil
   obtain ⟨cs',hc,ht⟩:=hi i (by omega)
   obtain ⟨_,hcl,hat⟩:=World.cells?_some hc
   obtain ⟨v0,rfl⟩:∃v0,cs'=[v0]:=by
    match cs',hcl with
    | [v0],_=>exact ⟨v0,rfl⟩
   obtain ⟨n0,e0,_,g0⟩:=DataW.trod_int Tryz.underlying5 ht
   simp only [List.cons.injEq,and_true] at e0
   subst e0
   have b0:=bounds_u8 g0
   obtain ⟨m0,rfl⟩:=Int.eq_ofNat_of_zero_le b0.1
   refine ⟨m0,by omega,?_⟩
   have h1:=hat 0 (by simp)
   rw [Go.Deep.add_add] at h1
   simpa using h1
  obtain ⟨l,hl1,hl2⟩:=list_of len each
  refine ⟨l,hl1,fun i hi=>?_,rd_of (by simp [u8s,hl1]) (by omega) fun q u hu=>?_,Nat.le_trans hl hm,hl⟩
  ·obtain ⟨j,hj⟩:=List.getElem?_of_mem hi
   exact (hl2 j i hj).1
  ·unfold u8s at hu
   rw [List.getElem?_map] at hu
   obtain ⟨y,hy,hu⟩:=Option.map_eq_some_iff.1 hu
   rw [←hu]
   exact (hl2 q y hy).2
theorem open_u16l (h:DataW.trod enc Tryz.prog w base spare held fuel 33 [.slice A len cap]=some x) :
  ∃l:List Nat,l.length=len∧(∀i∈l,i<65536)∧Rd w 1 len A (u16s l)∧len≤maxLen∧len≤cap:=by
 rcases Go.Deep.open_slice Tryz.underlying33 h with ⟨hcs,_⟩|⟨a,len',cap',m,n,D,Pl,hcs,hb,hl,hm,hmm,hx,hi⟩
 ·simp only [List.cons.injEq,Value.slice.injEq,and_true] at hcs
  obtain ⟨rfl,rfl,rfl⟩:=hcs
  exact ⟨[],rfl,by simp,Rd.nil _ _ _,by unfold maxLen;omega,Nat.le_refl _⟩
 ·simp only [List.cons.injEq,Value.slice.injEq,and_true] at hcs
  obtain ⟨rfl,rfl,rfl⟩:=hcs
  have hle:len≤m:=by rw [hmm];split<;>omega
  have hC:Tryz.prog.cellsOf 25=1:=by kernel_rfl
  rw [hC] at hi
  have each:∀i,i<len→∃y:Nat,y<65536∧w.cell? (a.add i)=some (.int .u16 y):=by
   intro i hil
   obtain ⟨cs',hc,ht⟩:=hi i (by omega)
   obtain ⟨_,hcl,hat⟩:=World.cells?_some hc
   obtain ⟨v0,rfl⟩:∃v0,cs'=[v0]:=by
    match cs',hcl with
    | [v0],_=>exact ⟨v0,rfl⟩
   obtain ⟨n0,e0,_,g0⟩:=DataW.trod_int Tryz.underlying25 ht
   simp only [List.cons.injEq,and_true] at e0
   subst e0
   have b0:=bounds_u16 g0
   obtain ⟨m0,rfl⟩:=Int.eq_ofNat_of_zero_le b0.1
   refine ⟨m0,by omega,?_⟩
   have h1:=hat 0 (by simp)
   rw [Go.Deep.add_add] at h1
   simpa using h1
  obtain ⟨l,hl1,hl2⟩:=list_of len each
  refine ⟨l,hl1,fun i hi=>?_,rd_of (by simp [u16s,hl1]) (by omega) fun q u hu=>?_,Nat.le_trans hl hm,hl⟩
  ·obtain ⟨j,hj⟩:=List.getElem?_of_mem hi
   exact (hl2 j i hj).1
  ·unfold u16s at hu
   rw [List.getElem?_map] at hu
   obtain ⟨y,hy,hu⟩:=Option.map_eq_some_iff.1 hu
   rw [←hu]
   exact (hl2 q y hy).2
theorem open_small {r:Go.Reach} {b0:Nat} {v:Value} {d:DataW H} {pp:List MemPlace} (hv:Value.okWide Tryz.prog w r b0 35 v) (h:DataW.Trod enc Tryz.prog w base spare held 35 v d pp):∃(ni df er hh:Nat) (srs:List SRV) (SA:Option Addr) (sc:Nat) (dl:List Nat) (DA:Option Addr) (dc:Nat) (gl:List Nat) (GA:Option Addr) (gc:Nat) (pl:List Nat) (PA:Option Addr) (pc:Nat),
   v=.agg #[.int .u8 ni,.int .u8 df,.int .u8 er,.slice SA srs.length sc,.int .u16 hh,.slice DA dl.length dc,.slice GA gl.length gc,.slice PA pl.length pc] ∧
   ni<256∧df<256∧er<256∧hh<65536∧srs.length≤maxLen∧dl.length≤maxLen∧gl.length≤maxLen∧pl.length≤maxLen∧(∀r∈srs,r.ok)∧(∀x∈dl,x<256)∧(∀x∈gl,x<65536)∧(∀x∈pl,x<256) ∧
   Rd w 4 srs.length SA (srs.flatMap SRV.cells)∧(∀r∈srs,Rd w 4 r.conds.length r.A (r.conds.flatMap SC.cells))∧Rd w 1 dl.length DA (u8s dl)∧Rd w 1 gl.length GA (u16s gl)∧Rd w 1 pl.length PA (u8s pl):=by
 obtain ⟨cs,rfl,hsz⟩:=okWide_struct Tryz.underlying35 hv
 have hC:Tryz.prog.cellsOf 35=8:=by kernel_rfl
 obtain ⟨l⟩:=cs
 match l,hsz.trans hC with
 | [v0,v1,v2,v3,v4,v5,v6,v7],_=>
  obtain ⟨fuel,hf⟩:=h
  obtain ⟨xs,n',_,_,_,hlen,hg⟩:=DataW.trod_struct Tryz.underlying35 hf
  match xs,hlen with
  | [y0,y1,y2,y3,y4,y5,y6,y7],_=>
   have f0:DataW.trod enc Tryz.prog w base spare held n' 5 [v0]=some y0:=one_field (hg 0 _ rfl) rfl rfl (by kernel_rfl) rfl
   obtain ⟨n0,e0,_,g0⟩:=DataW.trod_int Tryz.underlying5 f0
   simp only [List.cons.injEq,and_true] at e0
   subst e0
   have b0:=bounds_u8 g0
   obtain ⟨m0,rfl⟩:=Int.eq_ofNat_of_zero_le b0.1
   have d0:m0<256:=by omega
   have f1:DataW.trod enc Tryz.prog w base spare held n' 5 [v1]=some y1:=one_field (hg 1 _ rfl) rfl rfl (by kernel_rfl) rfl
   obtain ⟨n1,e1,_,g1⟩:=DataW.trod_int Tryz.underlying5 f1
   simp only [List.cons.injEq,and_true] at e1
   subst e1
   have b1:=bounds_u8 g1
   obtain ⟨m1,rfl⟩:=Int.eq_ofNat_of_zero_le b1.1
   have d1:m1<256:=by omega
   have f2:DataW.trod enc Tryz.prog w base spare held n' 5 [v2]=some y2:=one_field (hg 2 _ rfl) rfl rfl (by kernel_rfl) rfl
   obtain ⟨n2,e2,_,g2⟩:=DataW.trod_int Tryz.underlying5 f2
   simp only [List.cons.injEq,and_true] at e2
   subst e2
   have b2:=bounds_u8 g2
   obtain ⟨m2,rfl⟩:=Int.eq_ofNat_of_zero_le b2.1
   have d2:m2<256:=by omega
   have f3:DataW.trod enc Tryz.prog w base spare held n' 31 [v3]=some y3:=one_field (hg 3 _ rfl) rfl rfl (by kernel_rfl) rfl
   obtain ⟨A3,n3,c3,rfl⟩:=slice_form Tryz.underlying31 f3
   obtain ⟨l3,hl3,hok3,hr3,hm3,hc3⟩:=open_srules f3
   subst hl3
   have f4:DataW.trod enc Tryz.prog w base spare held n' 25 [v4]=some y4:=one_field (hg 4 _ rfl) rfl rfl (by kernel_rfl) rfl
   obtain ⟨n4,e4,_,g4⟩:=DataW.trod_int Tryz.underlying25 f4
   simp only [List.cons.injEq,and_true] at e4
   subst e4
   have b4:=bounds_u16 g4
   obtain ⟨m4,rfl⟩:=Int.eq_ofNat_of_zero_le b4.1
   have d4:m4<65536:=by omega
   have f5:DataW.trod enc Tryz.prog w base spare held n' 32 [v5]=some y5:=one_field (hg 5 _ rfl) rfl rfl (by kernel_rfl) rfl
   obtain ⟨A5,n5,c5,rfl⟩:=slice_form Tryz.underlying32 f5
   obtain ⟨l5,hl5,hok5,hr5,hm5,hc5⟩:=open_u8l f5
   subst hl5
   have f6:DataW.trod enc Tryz.prog w base spare held n' 33 [v6]=some y6:=one_field (hg 6 _ rfl) rfl rfl (by kernel_rfl) rfl
   obtain ⟨A6,n6,c6,rfl⟩:=slice_form Tryz.underlying33 f6
   obtain ⟨l6,hl6,hok6,hr6,hm6,hc6⟩:=open_u16l f6
   subst hl6
   have f7:DataW.trod enc Tryz.prog w base spare held n' 32 [v7]=some y7:=one_field (hg 7 _ rfl) rfl rfl (by kernel_rfl) rfl
   obtain ⟨A7,n7,c7,rfl⟩:=slice_form Tryz.underlying32 f7
   obtain ⟨l7,hl7,hok7,hr7,hm7,hc7⟩:=open_u8l f7
   subst hl7
   exact ⟨m0,m1,m2,m4,l3,A3,c3,l5,A5,c5,l6,A6,c6,l7,A7,c7,rfl,d0,d1,d2,d4,hm3,hm5,hm6,hm7,fun r hr=>(hok3 r hr).1,hok5,hok6,hok7,hr3,fun r hr=>(hok3 r hr).2,hr5,hr6,hr7⟩
end
end Go.Proofs.YtcnebdjhhfnmoaaGreatDoor
namespace Go.Proofs.YtcnebdjhhfnmoaaGreatDoor
open Go.RowKit
end Go.Proofs.YtcnebdjhhfnmoaaGreatDoor
namespace Go.Proofs.YtcnebdjhhfnmoaaGreatDoor.Me
open Go.RowKit Go.ChangeShapes Go.WideShapes Go.WideElems Go.ChangeAt Go.Deep
structure PolIn (w:World) (p:PolV):Prop where
 g1:p.name.length≤maxLen
 g2:p.dflt<4294967296
 g3:p.rules.length≤maxLen
 g4:p.paths.length≤maxLen
 g5:p.ports.length≤maxLen
 g6:p.handled<65536
 g7:p.paths.length≤p.Pc
 g8:p.ports.length≤p.Qc
 g9:∀r∈p.rules,r.m.ok
 g10:∀x∈p.paths,x.1.length≤maxLen∧x.2<65536
 g11:∀x∈p.ports,x.1<65536∧x.2<65536
 g12:Reads w p
structure SmV where
 ni:Nat
 df:Nat
 er:Nat
 hh:Nat
 srs:List SRV
 SA:Option Addr
 sc:Nat
 dl:List Nat
 DA:Option Addr
 dc:Nat
 gl:List Nat
 GA:Option Addr
 gc:Nat
 pl:List Nat
 KA:Option Addr
 kc:Nat
def SmV.cells (s:SmV):List Value:=[.int .u8 s.ni,.int .u8 s.df,.int .u8 s.er,.slice s.SA s.srs.length s.sc,.int .u16 s.hh,.slice s.DA s.dl.length s.dc,.slice s.GA s.gl.length s.gc,.slice s.KA s.pl.length s.kc]
structure SmIn (w:World) (s:SmV):Prop where
 g1:s.ni<256
 g2:s.df<256
 g3:s.er<256
 g4:s.hh<65536
 g5:s.srs.length≤maxLen
 g6:s.dl.length≤maxLen
 g7:s.gl.length≤maxLen
 g8:s.pl.length≤maxLen
 g9:∀r∈s.srs,r.ok
 g10:∀x∈s.dl,x<256
 g11:∀x∈s.gl,x<65536
 g12:∀x∈s.pl,x<256
 g13:Rd w 4 s.srs.length s.SA (s.srs.flatMap SRV.cells)
 g14:∀r∈s.srs,Rd w 4 r.conds.length r.A (r.conds.flatMap SC.cells)
 g15:Rd w 1 s.dl.length s.DA (u8s s.dl)
 g16:Rd w 1 s.gl.length s.GA (u16s s.gl)
 g17:Rd w 1 s.pl.length s.KA (u8s s.pl)
theorem open_sm {H:Type} {enc:TypeId×Value→H} {w:World} {base:Nat} {spare:Nat→Bool} {held:Bool} {r:Go.Reach} {b0:Nat} {v:Value} {d:DataW H} {pp:List MemPlace} (hv:Value.okWide Tryz.prog w r b0 35 v) (h:DataW.Trod enc Tryz.prog w base spare held 35 v d pp):∃s:SmV,SmIn w s∧v=.agg s.cells.toArray:=by
 obtain ⟨ni,df,er,hh,srs,SA,sc,dl,DA,dc,gl,GA,gc,pl,KA,kc,e,h1,h2,h3,h4,h5,h6,h7,h8,h9,h10,h11,h12,h13,h14,h15,h16,h17⟩:=open_small hv h
 exact ⟨⟨ni,df,er,hh,srs,SA,sc,dl,DA,dc,gl,GA,gc,pl,KA,kc⟩,⟨h1,h2,h3,h4,h5,h6,h7,h8,h9,h10,h11,h12,h13,h14,h15,h16,h17⟩,e⟩
def zeroSm:Value:=.agg #[.int .u8 0,.int .u8 0,.int .u8 0,.slice none 0 0,.int .u16 0,.slice none 0 0,.slice none 0 0,.slice none 0 0]
theorem rec_at:∀(l:List RcM) (k j:Nat),j<9→(l.flatMap RcM.cells)[k*9+j]?=(l[k]?).bind (fun x=>(RcM.cells x)[j]?):=flatz RcM.cells 9 (fun _=>rfl) (by omega)
section
variable {H:Type} {enc:TypeId×Value→H} {w:World} {base:Nat} {spare:Nat→Bool} {held:Bool} {fuel:Nat} {x:DataW H×List MemPlace} {A:Option Addr} {len cap:Nat}
theorem rec_cells {cs:List Value} (hl:cs.length=9) (hf:DataW.trod enc Tryz.prog w base spare held fuel 60 cs=some x):∃r:RcM,r.ok∧cs=r.cells:=by
 have h32:Tryz.prog.cellsOf 22=1:=by kernel_rfl
 have h64:Tryz.prog.cellsOf 57=1:=by kernel_rfl
 match cs,hl with
 | [c0,c1,c2,c3,c4,c5,c6,c7,c8],_=>
  obtain ⟨xs,n,_,_,_,hlen,hg⟩:=DataW.trod_struct Tryz.underlying60 hf
  match xs,hlen with
  | [y0,y1,y2,y3],_=>
   have f0:DataW.trod enc Tryz.prog w base spare held n 22 [c0]=some y0:=one_field (hg 0 _ rfl) rfl rfl h32 rfl
   have f1:DataW.trod enc Tryz.prog w base spare held n 22 [c1]=some y1:=one_field (hg 1 _ rfl) rfl rfl h32 rfl
   have f2:DataW.trod enc Tryz.prog w base spare held n 57 [c2]=some y2:=one_field (hg 2 _ rfl) rfl rfl h64 rfl
   have h3:DataW.trod enc Tryz.prog w base spare held n 58 [c3,c4,c5,c6,c7,c8]=some y3:=by
    have:=hg 3 _ rfl
    exact this
   obtain ⟨zs,m,_,_,_,hzl,hz⟩:=DataW.trod_array Tryz.underlying58 h3
   rw [h64] at hz
   have ft:∀i v,i<6→[c3,c4,c5,c6,c7,c8][i]?=some v→∃y,DataW.trod enc Tryz.prog w base spare held m 57 [v]=some y:=fun i v hi hv=>by
    have h1:=hz i hi
    have e:([c3,c4,c5,c6,c7,c8].drop (i*1)).take 1=[v]:=by
     rw [Nat.mul_one]
     rcases six hi with rfl|rfl|rfl|rfl|rfl|rfl<;>(simp at hv;subst hv;rfl)
    rw [e] at h1
    have hzn:i<zs.length:=by rw [hzl];exact hi
    exact ⟨zs[i],by rw [h1,List.getElem?_eq_getElem hzn]⟩
   obtain ⟨y3',f3⟩:=ft 0 c3 (by omega) rfl
   obtain ⟨y4',f4⟩:=ft 1 c4 (by omega) rfl
   obtain ⟨y5',f5⟩:=ft 2 c5 (by omega) rfl
   obtain ⟨y6',f6⟩:=ft 3 c6 (by omega) rfl
   obtain ⟨y7',f7⟩:=ft 4 c7 (by omega) rfl
   obtain ⟨y8',f8⟩:=ft 5 c8 (by omega) rfl
   obtain ⟨n0,e0,_,g0⟩:=DataW.trod_int Tryz.underlying22 f0
   simp only [List.cons.injEq,and_true] at e0
   subst e0
   have b0:=bounds_u32 g0
   obtain ⟨m0,rfl⟩:=Int.eq_ofNat_of_zero_le b0.1
   have d0:m0<4294967296:=by omega
   obtain ⟨n1,e1,_,g1⟩:=DataW.trod_int Tryz.underlying22 f1
   simp only [List.cons.injEq,and_true] at e1
   subst e1
   have b1:=bounds_u32 g1
   obtain ⟨m1,rfl⟩:=Int.eq_ofNat_of_zero_le b1.1
   have d1:m1<4294967296:=by omega
   obtain ⟨n2,e2,_,g2⟩:=DataW.trod_int Tryz.underlying57 f2
   simp only [List.cons.injEq,and_true] at e2
   subst e2
   have b2:=bounds_u64 g2
   obtain ⟨m2,rfl⟩:=Int.eq_ofNat_of_zero_le b2.1
   have d2:m2<18446744073709551616:=by omega
   obtain ⟨n3,e3,_,g3⟩:=DataW.trod_int Tryz.underlying57 f3
   simp only [List.cons.injEq,and_true] at e3
   subst e3
   have b3:=bounds_u64 g3
   obtain ⟨m3,rfl⟩:=Int.eq_ofNat_of_zero_le b3.1
   have d3:m3<18446744073709551616:=by omega
   obtain ⟨n4,e4,_,g4⟩:=DataW.trod_int Tryz.underlying57 f4
   simp only [List.cons.injEq,and_true] at e4
   subst e4
   have b4:=bounds_u64 g4
   obtain ⟨m4,rfl⟩:=Int.eq_ofNat_of_zero_le b4.1
   have d4:m4<18446744073709551616:=by omega
   obtain ⟨n5,e5,_,g5⟩:=DataW.trod_int Tryz.underlying57 f5
   simp only [List.cons.injEq,and_true] at e5
   subst e5
   have b5:=bounds_u64 g5
   obtain ⟨m5,rfl⟩:=Int.eq_ofNat_of_zero_le b5.1
   have d5:m5<18446744073709551616:=by omega
   obtain ⟨n6,e6,_,g6⟩:=DataW.trod_int Tryz.underlying57 f6
   simp only [List.cons.injEq,and_true] at e6
   subst e6
   have b6:=bounds_u64 g6
   obtain ⟨m6,rfl⟩:=Int.eq_ofNat_of_zero_le b6.1
   have d6:m6<18446744073709551616:=by omega
   obtain ⟨n7,e7,_,g7⟩:=DataW.trod_int Tryz.underlying57 f7
   simp only [List.cons.injEq,and_true] at e7
   subst e7
   have b7:=bounds_u64 g7
   obtain ⟨m7,rfl⟩:=Int.eq_ofNat_of_zero_le b7.1
   have d7:m7<18446744073709551616:=by omega
   obtain ⟨n8,e8,_,g8⟩:=DataW.trod_int Tryz.underlying57 f8
   simp only [List.cons.injEq,and_true] at e8
   subst e8
   have b8:=bounds_u64 g8
   obtain ⟨m8,rfl⟩:=Int.eq_ofNat_of_zero_le b8.1
   have d8:m8<18446744073709551616:=by omega
   exact ⟨⟨m0,m1,m2,m3,m4,m5,m6,m7,m8⟩,⟨d0,d1,d2,d3,d4,d5,d6,d7,d8⟩,rfl⟩
def RecsIn (w:World) (A:Option Addr) (len cap:Nat):Prop:=∃l:List RcM,l.length=len∧(∀b∈l,b.ok)∧Rd w 9 len A (l.flatMap RcM.cells)∧len≤maxLen∧(A=none→len=0∧cap=0)
theorem open_recs (h:DataW.trod enc Tryz.prog w base spare held fuel 36 [.slice A len cap]=some x):RecsIn w A len cap:=by
 rcases Go.Deep.open_slice Tryz.underlying36 h with ⟨hcs,_⟩|⟨a,len',cap',m,n,D,Pl,hcs,hb,hl,hm,hmm,hx,hi⟩
 ·simp only [List.cons.injEq,Value.slice.injEq,and_true] at hcs
  obtain ⟨rfl,rfl,rfl⟩:=hcs
  exact ⟨[],rfl,by simp,Rd.nil _ _ _,by unfold maxLen;omega,fun _=>⟨rfl,rfl⟩⟩
 ·simp only [List.cons.injEq,Value.slice.injEq,and_true] at hcs
  obtain ⟨rfl,rfl,rfl⟩:=hcs
  have hle:len≤m:=by rw [hmm];split<;>omega
  have hC:Tryz.prog.cellsOf 60=9:=by kernel_rfl
  rw [hC] at hi
  have each:∀i,i<len→∃y:RcM,y.ok∧∀j u,(RcM.cells y)[j]?=some u→w.cell? (a.add (i*9+j))=some u:=by
   intro i hil
   obtain ⟨cs',hc,ht⟩:=hi i (by omega)
   obtain ⟨_,hcl,hat⟩:=World.cells?_some hc
   obtain ⟨r,hr,rfl⟩:=rec_cells hcl ht
   refine ⟨r,hr,fun j u hu=>?_⟩
   have hj:j<9:=(List.getElem?_eq_some_iff.1 hu).1
   have h1:=hat j hj
   rw [Go.Deep.add_add] at h1
   rw [h1];exact hu
  obtain ⟨l,hl1,hl2⟩:=list_of len each
  refine ⟨l,hl1,fun i hi=>?_,rd_of (by rw [flatz_len RcM.cells 9 (fun _=>rfl),hl1]) (by omega) (fun q u hu=>?_),Nat.le_trans hl hm,fun e=>by cases e⟩
  ·obtain ⟨j,hj⟩:=List.getElem?_of_mem hi
   exact (hl2 j i hj).1
  ·have hq:q=q / 9*9+q%9:=by omega
   rw [hq,rec_at l _ _ (by omega)] at hu
   obtain ⟨y,hy,hu⟩:=Option.bind_eq_some_iff.1 hu
   rw [hq]
   exact (hl2 _ y hy).2 _ _ hu
end
structure QOk (p:PolV):Prop where
 r:p.rules.length≤80
 pt:p.paths.length≤50
 po:p.ports.length≤50
 cs:∀r∈p.rules,r.m.conds.length≤20
 ok:∀r∈p.rules,r.m.ok
 d:p.dflt<4294967296
 hd:p.handled<65536
 pa:∀x∈p.paths,x.2<65536
 qa:∀x∈p.ports,x.1<65536∧x.2<65536
theorem q_small {nm:Bs} {act:Nat} {rs:List RuleV} {RA:Option Addr} {Rc hd:Nat} {pt:List (Bs×Nat)} {PA:Option Addr} {Pc:Nat} {po:List (Nat×Nat)} {QA:Option Addr} {Qc:Nat} (h:SmOk nm act rs hd pt po):QOk ⟨nm,act,rs,RA,Rc,hd,pt,PA,Pc,po,QA,Qc⟩:=
 ⟨Nat.le_trans h.many (by omega),Nat.le_trans h.path.len (by omega),Nat.le_trans h.port.len (by omega),fun r hr=>Nat.le_trans (h.rule r hr).2.1 (by omega),fun r hr=>(h.rule r hr).2.2,h.act32,h.hd16,fun x hx=>(h.path.each x hx).2.2,fun x hx=>by have:=h.port.each x hx;exact ⟨by omega,this.2.2⟩⟩
theorem own_rd {w:World} {B:Nat} {e:TypeId} {z n c:Nat} {A:Option Addr} {xs:List Value} (h:w.ownsRow B e z (.slice A n c) n xs):Rd w z n A xs:=by
 obtain ⟨A',c',e',_,ht,_,_⟩:=own_typed h
 cases e'
 exact ht.rd
theorem small_reads {w:World} {B:Nat} {nm:Bs} {act:Nat} {rs:List RuleV} {RA:Option Addr} {Rc hd:Nat} {pt:List (Bs×Nat)} {PA:Option Addr} {Pc:Nat} {po:List (Nat×Nat)} {QA:Option Addr} {Qc:Nat} (h:Rows4 w B rs RA Rc pt PA Pc po QA Qc):Reads w ⟨nm,act,rs,RA,Rc,hd,pt,PA,Pc,po,QA,Qc⟩:=
 ⟨own_rd h.r,fun r hr=>(h.c r hr).rd,own_rd h.p,own_rd h.q⟩
theorem rrd_of {w:World} {p:PolV} (h:Reads w p) (q:QOk p):RRd w p.rules p.RA:=⟨h.rules,h.conds,q.ok⟩
end Go.Proofs.YtcnebdjhhfnmoaaGreatDoor.Me
