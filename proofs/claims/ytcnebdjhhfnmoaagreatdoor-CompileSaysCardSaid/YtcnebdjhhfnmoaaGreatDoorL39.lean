/- Policies as filters: laid, Plain, least, Insns, Filter, walked. -/
import Derived.Test.YtcnebdjhhfnmoaaGreatDoorL24
import Derived.Test.YtcnebdjhhfnmoaaGreatDoorL36
import Derived.Test.YtcnebdjhhfnmoaaGreatDoorL10
import Derived.Test.YtcnebdjhhfnmoaaGreatDoorL08
import Derived.Test.YtcnebdjhhfnmoaaGreatDoorL31
import Derived.Test.YtcnebdjhhfnmoaaGreatDoorL27
import Derived.Test.YtcnebdjhhfnmoaaGreatDoorL19
import Derived.Test.YtcnebdjhhfnmoaaGreatDoorL38
import Derived.BigQuiet
import Derived.Deep.QuietTactic
import Derived.Test.YtcnebdjhhfnmoaaGreatDoorL21
import Derived.Test.YtcnebdjhhfnmoaaGreatDoorL02
import Derived.Test.YtcnebdjhhfnmoaaGreatDoorL01
set_option maxHeartbeats 32000000
set_option maxRecDepth 100000
namespace Go.Proofs.YtcnebdjhhfnmoaaGreatDoor.Co
open Go.RowKit Go.WideElems Go.Proofs.YtcnebdjhhfnmoaaGreatDoor.Ju Go.Proofs.YtcnebdjhhfnmoaaGreatDoor.Me Go.Proofs.YtcnebdjhhfnmoaaGreatDoor.Ir Go.Proofs.YtcnebdjhhfnmoaaGreatDoor.Lo
structure PolG (w:World)(p:PolV)(nR nP nQ tb:Nat):Prop where
 rd:Reads w p
 off:OffP p tb
 q:QOk p
 nm:p.name.length≤maxLen
 pth:∀x∈p.paths,x.1.length≤maxLen
 cP:p.paths.length≤p.Pc
 cQ:p.ports.length≤p.Qc
 eR:p.rules.length=nR
 eP:p.paths.length=nP
 eQ:p.ports.length=nQ
theorem PolG.grown {w w':World}{p:PolV}{nR nP nQ tb:Nat}(h:PolG w p nR nP nQ tb)(g:w.grownBy w' (some tb)):PolG w' p nR nP nQ tb:=⟨h.rd.grown h.off g,h.off,h.q,h.nm,h.pth,h.cP,h.cQ,h.eR,h.eP,h.eQ⟩
theorem PolG.below {w w':World}{p:PolV}{nR nP nQ tb:Nat}(h:PolG w p nR nP nQ tb)(g:Below w.heap.size w w'):PolG w' p nR nP nQ tb:=⟨h.rd.below g,h.off,h.q,h.nm,h.pth,h.cP,h.cQ,h.eR,h.eP,h.eQ⟩
def polM (p:PolV):PolM:=⟨p.name,p.dflt,p.rules.map RuleV.m,p.handled,p.paths,p.ports⟩
theorem g_small {w:World}{p:PolV}{nR nP nQ tb:Nat}(h:PolG w p nR nP nQ tb)(hz:polE (polM p)=0){l:List RuleM}(hS:Sorted (p.rules.map RuleV.m) l):PlanW p.dflt (p.rules.map RuleV.m) l 3648:=by
 obtain ⟨h1,h2⟩:=pol_small hz
 refine plan_w (R:=64) (C:=6) hS h.q.d (fun r hr=>?_) h1 h2 (by omega)
 obtain ⟨v,hv,rfl⟩:=List.mem_map.1 hr
 exact h.q.ok v hv
def LaidPost (p:PolV)(tb m:Nat)(w:World)(e:Ending)(w':World):Prop:=
 w.grownBy w' (some tb)∧TS w' tb (m+64)∧((polE (polM p)≠0∧e=.returned (.tuple #[.slice none 0 0,.int .i64 (polE (polM p))])) ∨
  (polE (polM p)=0∧∃l' A c,Sorted (p.rules.map RuleV.m) l'∧e=.returned (.tuple #[.slice A (planL p.dflt (ofF l')).length c,.int .i64 0])∧Rd w' 7 (planL p.dflt (ofF l')).length A ((planL p.dflt (ofF l')).flatMap PtM.cells)))
theorem own_trdI {w:World}{B n:Nat}{A:Option Addr}{c:Nat}{xs:List Value}(h:w.ownsRow B 76 4 (.slice A n c) n xs):TRd w 76 4 n A xs:=by
 obtain ⟨A',c',e',_,ht,_,_⟩:=own_typed h
 cases e'
 exact ht
def CodeOut (w':World)(er:Nat)(ins:List Ins)(e:Ending):Prop:=
 (er=0∧∃A c,e=.returned (.tuple #[.slice A ins.length c,.int .i64 0])∧TRd w' 76 4 ins.length A (ins.flatMap Ins.cells))∨(er≠0∧e=.returned (.tuple #[.slice none 0 0,.int .i64 er]))
def CodePost (f:List PtM→Nat×List Ins)(p:PolV)(tb m:Nat)(w:World)(e:Ending)(w':World):Prop:=
 w.grownBy w' (some tb)∧TS w' tb (m+64)∧((polE (polM p)≠0∧e=.returned (.tuple #[.slice none 0 0,.int .i64 (polE (polM p))])) ∨
  (polE (polM p)=0∧∃l',Sorted (p.rules.map RuleV.m) l'∧CodeOut w' (f (planL p.dflt (ofF l'))).1 (f (planL p.dflt (ofF l'))).2 e))
def FilterPost (p:PolV)(tb m:Nat)(w:World)(e:Ending)(w':World):Prop:=
 w.grownBy w' (some tb)∧TS w' tb (m+64)∧((polE (polM p)≠0∧e=.returned (.tuple #[.pointer none,.int .i64 (polE (polM p))])) ∨
  (polE (polM p)=0∧∃l',Sorted (p.rules.map RuleV.m) l'∧(((leastF (planL p.dflt (ofF l'))).1≠0∧e=.returned (.tuple #[.pointer none,.int .i64 (leastF (planL p.dflt (ofF l'))).1])) ∨
   ((leastF (planL p.dflt (ofF l'))).1=0∧∃BB q b o c,w.heap.size≤q∧w.heap.size≤b∧BB≠q∧w.heap.size≤BB∧e=.returned (.tuple #[.pointer (some ⟨q,0,none⟩),.int .i64 0])∧Fil w' BB q b o c (leastF (planL p.dflt (ofF l'))).2 0 0))))
def plainF (l:List PtM):Nat×List Ins:=((makeF l).1,(makeF l).2.ins)
theorem laid_any (p:PolV)(nR nP nQ tb m:Nat)(w:World)(hg:PolG w p nR nP nQ tb)(hT:TS w tb m)(hm:m≤900000)(hE:Env w) :
  Calls Tryz.prog 33 #[.agg #[.string ⟨p.name.toArray⟩,.int .u32 p.dflt,.slice p.RA nR p.Rc,.int .u16 p.handled,.slice p.PA nP p.Pc,.slice p.QA nQ p.Qc],.pointer (some ⟨tb,0,none⟩)] w (LaidPost p tb m w):=by
 have hbk:=Bk.new w 30 #[.string ⟨p.name.toArray⟩,.int .u32 p.dflt,.slice p.RA nR p.Rc,.int .u16 p.handled,.slice p.PA nP p.Pc,.slice p.QA nQ p.Qc] (l:=[.string ⟨p.name.toArray⟩,.int .u32 p.dflt,.slice p.RA nR p.Rc,.int .u16 p.handled,.slice p.PA nP p.Pc,.slice p.QA nQ p.Qc]) rfl
 have hb0:=oneb w (.cells #[.string ⟨p.name.toArray⟩,.int .u32 p.dflt,.slice p.RA nR p.Rc,.int .u16 p.handled,.slice p.PA nP p.Pc,.slice p.QA nQ p.Qc] 30)
 have HG:=qd (hg.below hb0)
 have HTL:=qd hT.lt
 have HT:=qd (hT.alloc (.cells #[.string ⟨p.name.toArray⟩,.int .u32 p.dflt,.slice p.RA nR p.Rc,.int .u16 p.handled,.slice p.PA nP p.Pc,.slice p.QA nQ p.Qc] 30))
 have HE:=qd (hE.below hb0)
 have HB0:=qd hb0
 clear hg hT hE
 go_enter Tryz.func33,Tryz.ntmps33
 go_upto_region 1 with fail
 generalize World.alloc w _=w1 at hbk HG HT HE HB0 ⊢
 obtain ⟨K,hK⟩:∃K,K=w.heap.size:=⟨_,rfl⟩
 rw [←hK] at hbk ⊢
 have HK:=qd hK
 have HBk:=qd hbk
 clear hbk hb0 hK
 have q0:=HBk.out.cell 0 rfl
 have q1:=HBk.out.cell 1 rfl
 have q2:=HBk.out.cell 2 rfl
 have q3:=HBk.out.cell 3 rfl
 have q4:=HBk.out.cell 4 rfl
 have q5:=HBk.out.cell 5 rfl
 have ql:=HBk.out.lt
 have hck:=qd (polCheck_any p.name p.dflt p.rules p.RA nR p.Rc p.handled p.paths p.PA nP p.Pc p.ports p.QA nQ p.Qc tb m w1 HG.out.nm HG.out.q.d HG.out.eR HG.out.eP HG.out.eQ (by have:=HG.out.q.r;have:=HG.out.eR;unfold maxLen;omega) (by have:=HG.out.q.pt;have:=HG.out.eP;unfold maxLen;omega) (by have:=HG.out.q.po;have:=HG.out.eQ;unfold maxLen;omega) HG.out.q.ok HG.out.q.hd (fun x hx=>⟨HG.out.pth x hx,HG.out.q.pa x hx⟩) HG.out.q.qa (by have:=HG.out.cP;have:=HG.out.eP;omega) (by have:=HG.out.cQ;have:=HG.out.eQ;omega) HG.out.rd HG.out.off HT.out hm HE.out)
 go_wp2_with fail
 refine (hck.out).mono ?_
 clear q0 q1 q2 q3 q4 q5 ql
 clear hck
 rintro e w2 ⟨rfl,hT2,hg2⟩
 have HG2:=qd (HG.out.grown hg2)
 have HT2:=qd hT2
 have HBk2:=qd (HBk.out.grown hg2 (fun e=>by have:=Option.some.inj e;have:=HTL.out;have:=HK.out;omega))
 have HGr:=qd (show w.grownBy w2 (some tb) from grown_trans (grow_below (grown_refl w _) HB0.out) hg2 (fun j hj=>.inl hj))
 clear hT2 hg2 HG HT HE HBk HB0
 obtain ⟨E,hE⟩:∃E,E=polE (polM p):=⟨_,rfl⟩
 rw [show polE ⟨p.name,p.dflt,p.rules.map RuleV.m,p.handled,p.paths,p.ports⟩=E from hE.symm]
 have HEq:=qd hE
 clear hE
 by_cases hz:E=0
 rotate_left 1
 ·have gz:((E:Int) != 0)=true:=by rw [bne_iff_ne];omega
  have HZ:=qd hz
  clear hz
  go_wp2_with fail
  go_ret2
  exact ⟨HGr.out,HT2.out,Or.inl ⟨by rw [←HEq.out];exact HZ.out,by rw [←HEq.out];rfl⟩⟩
 have HZ:=qd (HEq.out.symm.trans hz)
 rw [hz]
 clear hz HEq
 have q0:=HBk2.out.cell 0 rfl
 have q1:=HBk2.out.cell 1 rfl
 have q2:=HBk2.out.cell 2 rfl
 have q3:=HBk2.out.cell 3 rfl
 have q4:=HBk2.out.cell 4 rfl
 have q5:=HBk2.out.cell 5 rfl
 have ql:=HBk2.out.lt
 have hof:=qd (of_anyC ⟨p.name.toArray⟩ p.dflt p.rules p.RA nR p.Rc p.handled p.PA nP p.Pc p.QA nQ p.Qc w2 HG2.out.eR (by have:=HG2.out.q.r;have:=HG2.out.eR;omega) (rrd_of HG2.out.rd HG2.out.q) (fun r hr=>by have:=HG2.out.q.cs r hr;omega))
 go_wp2_with fail
 refine (hof.out).mono ?_
 clear q0 q1 q2 q3 q4 q5 ql
 clear hof
 rintro e w3 ⟨hb3,l',hS,CA,Cc,cs,hcs,rfl,hP,hcap⟩
 have hw:=g_small HG2.out HZ.out hS
 have hcl:cs.length≤80:=by
  have h1:=Ir.plan_len hS
  rw [←hcs,List.length_map,List.length_map] at h1
  have:=HG2.out.q.r;omega
 have hsm:∀c∈cs,c.brs.length≤100000∧∀b∈c.brs,b.m.conds.length≤100000∧∀q∈b.m.conds,q.ok:=fun c hc=>by
  have hm:c.m∈ofF l':=by rw [←hcs];exact List.mem_map.2 ⟨c,hc,rfl⟩
  obtain ⟨g1,g2⟩:=plan_sub hS c.m hm
  have g3:c.m.brs.length=c.brs.length:=by show (c.brs.map BrV.m).length=_;rw [List.length_map]
  rw [List.length_map] at g1
  refine ⟨by have:=HG2.out.q.r;omega,fun b hb=>?_⟩
  obtain ⟨r,hr,_,_,h4,h5⟩:=g2 b.m (List.mem_map.2 ⟨b,hb,rfl⟩)
  obtain ⟨rv,hrv,rfl⟩:=List.mem_map.1 hr
  have hk:=HG2.out.q.cs rv hrv
  have ho:=HG2.out.q.ok rv hrv
  exact ⟨by omega,fun q hq=>ho.2.2.2 q (h5 q hq)⟩
 have hlen:=hw.len
 have HPl:=qd (plan_any cs CA cs.length Cc p.dflt w3 (csin_of hP hsm) rfl hcap (by omega) (by rw [hcs];omega))
 obtain ⟨nC,hnC⟩:∃n,n=cs.length:=⟨_,rfl⟩
 rw [←hnC] at HPl ⊢
 rw [hcs] at HPl
 have HS:=qd hS
 have HB3:=qd hb3
 clear hb3 hS hcs hP hcap hw hcl hsm hlen hnC
 go_wp2_with fail
 refine HPl.out.mono ?_
 clear HPl
 rintro e w4 ⟨A1,c1,rfl,hr1,hb4⟩
 have HR1:=qd hr1
 have HB4:=qd hb4
 clear hr1 hb4
 obtain ⟨N,hN⟩:∃N,N=(planL p.dflt (ofF l')).length:=⟨_,rfl⟩
 rw [←hN]
 have HN:=qd hN
 clear hN
 go_wp2_with fail
 go_ret2
 rw [HN.out]
 exact ⟨grow_below (grow_below HGr.out HB3.out) HB4.out,(HT2.out.kept HB3.out).kept HB4.out,Or.inr ⟨HZ.out,l',A1,c1,HS.out,rfl,HR1.out⟩⟩
theorem plain_any (p:PolV)(nR nP nQ tb m:Nat)(w:World)(hg:PolG w p nR nP nQ tb)(hT:TS w tb m)(hm:m≤900000)(hE:Env w) :
  Calls Tryz.prog 13 #[.agg #[.string ⟨p.name.toArray⟩,.int .u32 p.dflt,.slice p.RA nR p.Rc,.int .u16 p.handled,.slice p.PA nP p.Pc,.slice p.QA nQ p.Qc],.pointer (some ⟨tb,0,none⟩)] w (CodePost plainF p tb m w):=by
 have hbk:=Bk.new w 30 #[.string ⟨p.name.toArray⟩,.int .u32 p.dflt,.slice p.RA nR p.Rc,.int .u16 p.handled,.slice p.PA nP p.Pc,.slice p.QA nQ p.Qc] (l:=[.string ⟨p.name.toArray⟩,.int .u32 p.dflt,.slice p.RA nR p.Rc,.int .u16 p.handled,.slice p.PA nP p.Pc,.slice p.QA nQ p.Qc]) rfl
 have hb0:=oneb w (.cells #[.string ⟨p.name.toArray⟩,.int .u32 p.dflt,.slice p.RA nR p.Rc,.int .u16 p.handled,.slice p.PA nP p.Pc,.slice p.QA nQ p.Qc] 30)
 have HG:=qd (hg.below hb0)
 have HTL:=qd hT.lt
 have HT:=qd (hT.alloc (.cells #[.string ⟨p.name.toArray⟩,.int .u32 p.dflt,.slice p.RA nR p.Rc,.int .u16 p.handled,.slice p.PA nP p.Pc,.slice p.QA nQ p.Qc] 30))
 have HE:=qd (hE.below hb0)
 have HB0:=qd hb0
 clear hg hT hE
 go_enter Tryz.func13,Tryz.ntmps13
 go_upto_region 1 with fail
 generalize World.alloc w _=w1 at hbk HG HT HE HB0 ⊢
 obtain ⟨K,hK⟩:∃K,K=w.heap.size:=⟨_,rfl⟩
 rw [←hK] at hbk ⊢
 have HK:=qd hK
 have HBk:=qd hbk
 clear hbk hb0 hK
 have q0:=HBk.out.cell 0 rfl
 have q1:=HBk.out.cell 1 rfl
 have q2:=HBk.out.cell 2 rfl
 have q3:=HBk.out.cell 3 rfl
 have q4:=HBk.out.cell 4 rfl
 have q5:=HBk.out.cell 5 rfl
 have ql:=HBk.out.lt
 have hla:=qd (laid_any p nR nP nQ tb m w1 HG.out HT.out hm HE.out)
 go_wp2_with fail
 refine (hla.out).mono ?_
 clear q0 q1 q2 q3 q4 q5 ql
 clear hla
 rintro e w2 ⟨hg2,hT2,hcs⟩
 have HT2:=qd hT2
 have HGr:=qd (show w.grownBy w2 (some tb) from grown_trans (grow_below (grown_refl w _) HB0.out) hg2 (fun j hj=>.inl hj))
 have HQ:=qd (fun l' (hz:polE (polM p)=0) (hS:Sorted (p.rules.map RuleV.m) l')=>g_small HG.out hz hS)
 clear hT2 hg2 HT HE HBk HB0
 rcases hcs with ⟨hz,rfl⟩|⟨hz,l',A,c,hS,rfl,hr⟩
 ·obtain ⟨E,hE⟩:∃E,E=polE (polM p):=⟨_,rfl⟩
  rw [←hE] at hz ⊢
  have gz:((E:Int) != 0)=true:=by rw [bne_iff_ne];omega
  have HZ:=qd hz
  have HEq:=qd hE
  clear hz hE
  go_wp2_with fail
  go_ret2
  exact ⟨HGr.out,HT2.out,Or.inl ⟨by rw [←HEq.out];exact HZ.out,by rw [←HEq.out];rfl⟩⟩
 have HW:=qd (HQ.out l' hz hS)
 have hlen:=HW.out.len
 obtain ⟨N,hN⟩:∃N,N=(planL p.dflt (ofF l')).length:=⟨_,rfl⟩
 rw [←hN] at hr hlen ⊢
 have HN:=qd hN
 have HR:=qd hr
 have HZ:=qd hz
 have HS:=qd hS
 clear hr hz hS hN HQ
 go_wp2_with fail
 refine (make_any _ N A c w2 HN.out.symm (by omega) HW.out.oks HR.out).mono ?_
 rintro e w3 ⟨hb3,hok,hbad⟩
 have HB3:=qd hb3
 have HP:=qd (show w.grownBy w3 (some tb)∧TS w3 tb (m+64) from ⟨grow_below HGr.out hb3,HT2.out.kept hb3⟩)
 clear hb3
 by_cases h0:(makeF (planL p.dflt (ofF l'))).1=0
 ·obtain ⟨v,hv,rfl⟩:=hok h0
  obtain ⟨A5,c5,rfl,_⟩:=own_typed hv
  have HV:=qd (own_trdI hv)
  have H0:=qd h0
  obtain ⟨k,hk⟩:∃k,k=(makeF (planL p.dflt (ofF l'))).2.ins.length:=⟨_,rfl⟩
  rw [←hk] at HV ⊢
  have HKk:=qd hk
  clear hok hbad h0 hv hk
  go_wp2_with fail
  go_ret2
  refine ⟨HP.out.1,HP.out.2,Or.inr ⟨HZ.out,l',HS.out,Or.inl ⟨H0.out,A5,c5,?_,?_⟩⟩⟩
  ·rw [HKk.out];rfl
  ·have:=HV.out;rw [HKk.out] at this;exact this
 ·have hb:=hbad h0
  subst hb
  have H0:=qd h0
  obtain ⟨k,hk⟩:∃k,k=(makeF (planL p.dflt (ofF l'))).1:=⟨_,rfl⟩
  rw [←hk]
  have HKk:=qd hk
  clear hok hbad h0 hk
  go_wp2_with fail
  go_ret2
  exact ⟨HP.out.1,HP.out.2,Or.inr ⟨HZ.out,l',HS.out,Or.inr ⟨H0.out,by rw [HKk.out];rfl⟩⟩⟩
theorem least_any (l:List PtM)(n:Nat)(A:Option Addr)(cap:Nat)(w:World)(hl:l.length=n)(hn:n≤65536)(hok:∀q∈l,q.ok)(hr:Rd w 7 n A (l.flatMap PtM.cells)) :
  Calls Tryz.prog 34 #[.slice A n cap] w fun e w'=>Below w.heap.size w w'∧CodeOut w' (leastF l).1 (leastF l).2 e:=by
 have HL:=qd hl
 have HO:=qd hok
 have HR:=qd hr
 clear hl hok hr
 go_enter Tryz.func34,Tryz.ntmps34
 go_wp2_with fail
 refine (peep_any l n A cap w HL.out hn HR.out).mono ?_
 rintro e w1 ⟨A1,c1,rfl,hr1,hb1⟩
 have HB1:=qd hb1
 have HR1:=qd (own_rd hr1)
 have HL1:=qd (show (peepF l).length≤n by have:=peep_len l zPt;have:=HL.out;show (peepS zPt l).length≤n;omega)
 obtain ⟨n1,hn1⟩:∃k,k=(peepF l).length:=⟨_,rfl⟩
 rw [←hn1] at HR1 HL1 ⊢
 have HN1:=qd hn1
 clear hr1 hb1 hn1
 go_wp2_with fail
 refine (make_any (peepF l) n1 A1 c1 w1 HN1.out.symm (by have:=HL1.out;omega) (peepF_oks HO.out) HR1.out).mono ?_
 rintro e w2 ⟨hb2,hok2,hbad2⟩
 have HB2:=qd (HB1.out.trans (hb2.mono HB1.out.size))
 clear hb2 HR1 HL1 HN1
 obtain ⟨a,ha⟩:∃a,a=(makeF (peepF l)).1:=⟨_,rfl⟩
 obtain ⟨ls,hls⟩:∃x,x=(makeF (peepF l)).2.ins:=⟨_,rfl⟩
 rw [←ha] at hok2 hbad2
 rw [←hls] at hok2
 obtain ⟨A2,k2,c2,he2,h2⟩:∃(A2:Option Addr) (k2 c2:Nat),e=.returned (.tuple #[.slice A2 k2 c2,.int .i64 a])∧(a=0→k2=ls.length∧TRd w2 76 4 k2 A2 (ls.flatMap Ins.cells)):=by
  by_cases h0:a=0
  ·obtain ⟨v,hv,e⟩:=hok2 h0
   obtain ⟨A5,c5,rfl,_⟩:=own_typed hv
   exact ⟨A5,_,c5,by rw [e,h0];rfl,fun _=>⟨rfl,own_trdI hv⟩⟩
  ·exact ⟨none,0,0,hbad2 h0,fun a=>absurd a h0⟩
 subst he2
 have HLa:=qd h2
 have HA:=qd ha
 have HLs:=qd hls
 clear hok2 hbad2 h2 ha hls
 go_wp2_with fail
 refine (tidy_any l n A cap w2 HL.out hn HO.out (HR.out.below HB2.out)).mono ?_
 rintro e w3 ⟨A3,c3,rfl,hr3,hb3⟩
 have HB23:=qd hb3
 have HR3:=qd (own_rd hr3)
 have HL3:=qd (show (tidyF l).length≤n by have:=tidyF_len l;have:=HL.out;omega)
 obtain ⟨n3,hn3⟩:∃k,k=(tidyF l).length:=⟨_,rfl⟩
 rw [←hn3] at HR3 HL3 ⊢
 have HN3:=qd hn3
 clear hr3 hb3 hn3
 go_wp2_with fail
 refine (peep_any (tidyF l) n3 A3 c3 w3 HN3.out.symm (by have:=HL3.out;omega) HR3.out).mono ?_
 rintro e w4 ⟨A4,c4,rfl,hr4,hb4⟩
 have HB24:=qd (HB23.out.trans (hb4.mono HB23.out.size))
 have HR4:=qd (own_rd hr4)
 have HL4:=qd (show (peepF (tidyF l)).length≤n by have:=peep_len (tidyF l) zPt;have:=HL3.out;have:=HN3.out;show (peepS zPt (tidyF l)).length≤n;omega)
 obtain ⟨n4,hn4⟩:∃k,k=(peepF (tidyF l)).length:=⟨_,rfl⟩
 rw [←hn4] at HR4 HL4 ⊢
 have HN4:=qd hn4
 clear hr4 hb4 hn4 HB23
 go_wp2_with fail
 refine (make_any (peepF (tidyF l)) n4 A4 c4 w4 HN4.out.symm (by have:=HL4.out;omega) (peepF_oks (tidyF_oks HO.out)) HR4.out).mono ?_
 rintro e w5 ⟨hb5,hok5,hbad5⟩
 have HB25:=qd (HB24.out.trans (hb5.mono HB24.out.size))
 clear hb5 HR4 HL4 HN4 HB24 HR3 HL3 HN3
 obtain ⟨b,hb⟩:∃b,b=(makeF (peepF (tidyF l))).1:=⟨_,rfl⟩
 obtain ⟨ts,hts⟩:∃x,x=(makeF (peepF (tidyF l))).2.ins:=⟨_,rfl⟩
 rw [←hb] at hok5 hbad5
 rw [←hts] at hok5
 obtain ⟨A6,k6,c6,he6,h6⟩:∃(A6:Option Addr) (k6 c6:Nat),e=.returned (.tuple #[.slice A6 k6 c6,.int .i64 b])∧((b=0∧k6=ts.length∧TRd w5 76 4 k6 A6 (ts.flatMap Ins.cells))∨(b≠0∧A6=none∧k6=0∧c6=0)):=by
  by_cases h0:b=0
  ·obtain ⟨v,hv,e⟩:=hok5 h0
   obtain ⟨A5,c5,rfl,_⟩:=own_typed hv
   exact ⟨A5,_,c5,by rw [e,h0];rfl,Or.inl ⟨h0,rfl,own_trdI hv⟩⟩
  ·exact ⟨none,0,0,hbad5 h0,Or.inr ⟨h0,rfl,rfl,rfl⟩⟩
 subst he6
 have HF:=qd (show leastF l=if a≠0∨b=0∧ts.length≤ls.length then (b,if b=0 then ts else []) else (0,ls) by rw [HA.out,HLs.out,hb,hts];rfl)
 have HBw:=qd (HB2.out.trans (HB25.out.mono HB2.out.size))
 have HLa:=qd (fun (h0:a=0)=>show k2=ls.length∧TRd w5 76 4 k2 A2 (ls.flatMap Ins.cells) from ⟨(HLa.out h0).1,(HLa.out h0).2.below HB25.out⟩)
 have HT6:=qd h6
 have HTi:=qd (show ∀X:Nat×List Ins,X=(b,if b=0 then ts else [])→CodeOut w5 X.1 X.2 (.returned (.tuple #[.slice A6 k6 c6,.int .i64 b])) from fun X hX=>by
  subst hX
  rcases HT6.out with ⟨h1,h2,h3⟩|⟨h1,h2,h3,h4⟩
  ·left
   simp only [if_pos h1]
   exact ⟨h1,A6,c6,by rw [h1,h2];rfl,by rw [←h2];exact h3⟩
  ·right
   exact ⟨h1,by rw [h2,h3,h4]⟩)
 clear hok5 hbad5 h6 hb hts HA HLs HB2 HB25
 by_cases ha:a=0
 rotate_left 1
 ·have g1:((a:Int) != 0)=true:=by rw [bne_iff_ne];omega
  have HFe:=qd (HF.out.trans (if_pos (Or.inl ha)))
  clear ha
  go_wp2_with fail
  go_ret2
  exact ⟨HBw.out,HTi.out _ HFe.out⟩
 have HL2:=qd (HLa.out ha)
 have g1:((a:Int) != 0)=false:=by rw [ha];rfl
 by_cases hb:b=0
 rotate_left 1
 ·have g2:((b:Int)==0)=false:=by rw [beq_eq_false_iff_ne];omega
  have HFe:=qd (HF.out.trans (if_neg (by omega)))
  clear ha hb
  go_wp2_with fail
  go_ret2
  rw [HFe.out]
  exact ⟨HBw.out,Or.inl ⟨rfl,A2,c2,by rw [HL2.out.1];rfl,by rw [←HL2.out.1];exact HL2.out.2⟩⟩
 have g2:((b:Int)==0)=true:=by rw [hb];rfl
 have hk6:k6=ts.length:=by rcases HT6.out with ⟨_,h2,_⟩|⟨h1,_⟩;exact h2;exact absurd hb h1
 by_cases hle:k6≤k2
 ·have g3:(k6:Int)≤(k2:Int):=by omega
  have d3:decide ((k6:Int)≤(k2:Int))=true:=decide_eq_true g3
  have HFe:=qd (HF.out.trans (if_pos (Or.inr ⟨hb,by have:=HL2.out.1;omega⟩)))
  clear ha hb hle hk6
  go_wp2_with fail
  go_ret2
  exact ⟨HBw.out,HTi.out _ HFe.out⟩
 ·have g3:¬(k6:Int)≤(k2:Int):=by omega
  have d3:decide ((k6:Int)≤(k2:Int))=false:=decide_eq_false g3
  have HFe:=qd (HF.out.trans (if_neg (by have:=HL2.out.1;omega)))
  clear ha hb hle hk6
  go_wp2_with fail
  go_ret2
  rw [HFe.out]
  exact ⟨HBw.out,Or.inl ⟨rfl,A2,c2,by rw [HL2.out.1];rfl,by rw [←HL2.out.1];exact HL2.out.2⟩⟩
theorem insns_any (p:PolV)(nR nP nQ tb m:Nat)(w:World)(hg:PolG w p nR nP nQ tb)(hT:TS w tb m)(hm:m≤900000)(hE:Env w) :
  Calls Tryz.prog 12 #[.agg #[.string ⟨p.name.toArray⟩,.int .u32 p.dflt,.slice p.RA nR p.Rc,.int .u16 p.handled,.slice p.PA nP p.Pc,.slice p.QA nQ p.Qc],.pointer (some ⟨tb,0,none⟩)] w (CodePost leastF p tb m w):=by
 have hbk:=Bk.new w 30 #[.string ⟨p.name.toArray⟩,.int .u32 p.dflt,.slice p.RA nR p.Rc,.int .u16 p.handled,.slice p.PA nP p.Pc,.slice p.QA nQ p.Qc] (l:=[.string ⟨p.name.toArray⟩,.int .u32 p.dflt,.slice p.RA nR p.Rc,.int .u16 p.handled,.slice p.PA nP p.Pc,.slice p.QA nQ p.Qc]) rfl
 have hb0:=oneb w (.cells #[.string ⟨p.name.toArray⟩,.int .u32 p.dflt,.slice p.RA nR p.Rc,.int .u16 p.handled,.slice p.PA nP p.Pc,.slice p.QA nQ p.Qc] 30)
 have HG:=qd (hg.below hb0)
 have HTL:=qd hT.lt
 have HT:=qd (hT.alloc (.cells #[.string ⟨p.name.toArray⟩,.int .u32 p.dflt,.slice p.RA nR p.Rc,.int .u16 p.handled,.slice p.PA nP p.Pc,.slice p.QA nQ p.Qc] 30))
 have HE:=qd (hE.below hb0)
 have HB0:=qd hb0
 clear hg hT hE
 go_enter Tryz.func12,Tryz.ntmps12
 go_upto_region 1 with fail
 generalize World.alloc w _=w1 at hbk HG HT HE HB0 ⊢
 obtain ⟨K,hK⟩:∃K,K=w.heap.size:=⟨_,rfl⟩
 rw [←hK] at hbk ⊢
 have HK:=qd hK
 have HBk:=qd hbk
 clear hbk hb0 hK
 have q0:=HBk.out.cell 0 rfl
 have q1:=HBk.out.cell 1 rfl
 have q2:=HBk.out.cell 2 rfl
 have q3:=HBk.out.cell 3 rfl
 have q4:=HBk.out.cell 4 rfl
 have q5:=HBk.out.cell 5 rfl
 have ql:=HBk.out.lt
 have hla:=qd (laid_any p nR nP nQ tb m w1 HG.out HT.out hm HE.out)
 go_wp2_with fail
 refine (hla.out).mono ?_
 clear q0 q1 q2 q3 q4 q5 ql
 clear hla
 rintro e w2 ⟨hg2,hT2,hcs⟩
 have HT2:=qd hT2
 have HGr:=qd (show w.grownBy w2 (some tb) from grown_trans (grow_below (grown_refl w _) HB0.out) hg2 (fun j hj=>.inl hj))
 have HQ:=qd (fun l' (hz:polE (polM p)=0) (hS:Sorted (p.rules.map RuleV.m) l')=>g_small HG.out hz hS)
 clear hT2 hg2 HT HE HBk HB0
 rcases hcs with ⟨hz,rfl⟩|⟨hz,l',A,c,hS,rfl,hr⟩
 ·obtain ⟨E,hE⟩:∃E,E=polE (polM p):=⟨_,rfl⟩
  rw [←hE] at hz ⊢
  have gz:((E:Int) != 0)=true:=by rw [bne_iff_ne];omega
  have HZ:=qd hz
  have HEq:=qd hE
  clear hz hE
  go_wp2_with fail
  go_ret2
  exact ⟨HGr.out,HT2.out,Or.inl ⟨by rw [←HEq.out];exact HZ.out,by rw [←HEq.out];rfl⟩⟩
 have HW:=qd (HQ.out l' hz hS)
 have hlen:=HW.out.len
 obtain ⟨N,hN⟩:∃N,N=(planL p.dflt (ofF l')).length:=⟨_,rfl⟩
 rw [←hN] at hr hlen ⊢
 have HN:=qd hN
 have HR:=qd hr
 have HZ:=qd hz
 have HS:=qd hS
 clear hr hz hS hN HQ
 go_wp2_with fail
 refine (least_any _ N A c w2 HN.out.symm (by omega) HW.out.oks HR.out).mono ?_
 rintro e w3 ⟨hb3,hout⟩
 have HP:=qd (show w.grownBy w3 (some tb)∧TS w3 tb (m+64) from ⟨grow_below HGr.out hb3,HT2.out.kept hb3⟩)
 clear hb3
 obtain ⟨X,hX⟩:∃X,X=leastF (planL p.dflt (ofF l')):=⟨_,rfl⟩
 rw [←hX] at hout
 have HX:=qd hX
 clear hX
 rcases hout with ⟨h0,A5,c5,rfl,hr5⟩|⟨h0,rfl⟩
 ·have H5:=qd hr5
  have H0:=qd h0
  obtain ⟨k,hk⟩:∃k,k=X.2.length:=⟨_,rfl⟩
  rw [←hk] at H5 ⊢
  have HKk:=qd hk
  clear h0 hr5 hk
  go_wp2_with fail
  go_ret2
  refine ⟨HP.out.1,HP.out.2,Or.inr ⟨HZ.out,l',HS.out,?_⟩⟩
  rw [←HX.out]
  refine Or.inl ⟨H0.out,A5,c5,?_,?_⟩
  ·rw [HKk.out];rfl
  ·have:=H5.out;rw [HKk.out] at this;exact this
 ·have H0:=qd h0
  obtain ⟨k,hk⟩:∃k,k=X.1:=⟨_,rfl⟩
  rw [←hk]
  have HKk:=qd hk
  clear h0 hk
  go_wp2_with fail
  go_ret2
  refine ⟨HP.out.1,HP.out.2,Or.inr ⟨HZ.out,l',HS.out,?_⟩⟩
  rw [←HX.out]
  exact Or.inr ⟨H0.out,by rw [HKk.out];rfl⟩
theorem filter_any (p:PolV)(nR nP nQ tb m:Nat)(w:World)(hg:PolG w p nR nP nQ tb)(hT:TS w tb m)(hm:m≤900000)(hE:Env w) :
  Calls Tryz.prog 11 #[.agg #[.string ⟨p.name.toArray⟩,.int .u32 p.dflt,.slice p.RA nR p.Rc,.int .u16 p.handled,.slice p.PA nP p.Pc,.slice p.QA nQ p.Qc],.pointer (some ⟨tb,0,none⟩)] w (FilterPost p tb m w):=by
 have hbk:=Bk.new w 30 #[.string ⟨p.name.toArray⟩,.int .u32 p.dflt,.slice p.RA nR p.Rc,.int .u16 p.handled,.slice p.PA nP p.Pc,.slice p.QA nQ p.Qc] (l:=[.string ⟨p.name.toArray⟩,.int .u32 p.dflt,.slice p.RA nR p.Rc,.int .u16 p.handled,.slice p.PA nP p.Pc,.slice p.QA nQ p.Qc]) rfl
 have hb0:=oneb w (.cells #[.string ⟨p.name.toArray⟩,.int .u32 p.dflt,.slice p.RA nR p.Rc,.int .u16 p.handled,.slice p.PA nP p.Pc,.slice p.QA nQ p.Qc] 30)
 have HG:=qd (hg.below hb0)
 have HTL:=qd hT.lt
 have HT:=qd (hT.alloc (.cells #[.string ⟨p.name.toArray⟩,.int .u32 p.dflt,.slice p.RA nR p.Rc,.int .u16 p.handled,.slice p.PA nP p.Pc,.slice p.QA nQ p.Qc] 30))
 have HE:=qd (hE.below hb0)
 have HB0:=qd hb0
 clear hg hT hE
 go_enter Tryz.func11,Tryz.ntmps11
 go_upto_region 1 with fail
 generalize World.alloc w _=w1 at hbk HG HT HE HB0 ⊢
 obtain ⟨K,hK⟩:∃K,K=w.heap.size:=⟨_,rfl⟩
 rw [←hK] at hbk ⊢
 have HK:=qd hK
 have HBk:=qd hbk
 clear hbk hb0 hK
 have q0:=HBk.out.cell 0 rfl
 have q1:=HBk.out.cell 1 rfl
 have q2:=HBk.out.cell 2 rfl
 have q3:=HBk.out.cell 3 rfl
 have q4:=HBk.out.cell 4 rfl
 have q5:=HBk.out.cell 5 rfl
 have ql:=HBk.out.lt
 have hin:=qd (insns_any p nR nP nQ tb m w1 HG.out HT.out hm HE.out)
 go_wp2_with fail
 refine (hin.out).mono ?_
 clear q0 q1 q2 q3 q4 q5 ql
 clear hin
 rintro e w2 ⟨hg2,hT2,hcs⟩
 have HT2:=qd hT2
 have HGr:=qd (show w.grownBy w2 (some tb) from grown_trans (grow_below (grown_refl w _) HB0.out) hg2 (fun j hj=>.inl hj))
 have HQ:=qd (fun l' (hz:polE (polM p)=0) (hS:Sorted (p.rules.map RuleV.m) l')=>g_small HG.out hz hS)
 clear hT2 hg2 HT HE HBk HB0
 rcases hcs with ⟨hz,rfl⟩|⟨hz,l',hS,hout⟩
 ·obtain ⟨E,hE⟩:∃E,E=polE (polM p):=⟨_,rfl⟩
  rw [←hE] at hz ⊢
  have gz:((E:Int) != 0)=true:=by rw [bne_iff_ne];omega
  have HZ:=qd hz
  have HEq:=qd hE
  clear hz hE
  go_wp2_with fail
  go_ret2
  exact ⟨HGr.out,HT2.out,Or.inl ⟨by rw [←HEq.out];exact HZ.out,by rw [←HEq.out];rfl⟩⟩
 have HW:=HQ.out l' hz hS
 have HZ:=qd hz
 have HS:=qd hS
 have HLr:=qd (fun (h0:(leastF (planL p.dflt (ofF l'))).1=0)=>show LeastR (planL p.dflt (ofF l')) from by
  rcases least_or HW.way with ⟨h,_⟩|⟨h,_⟩
  ·exact h
  ·rw [h] at h0;cases h0)
 have HOk:=qd HW.oks
 have HXe:∃X,X=leastF (planL p.dflt (ofF l')):=⟨_,rfl⟩
 obtain ⟨X,hX⟩:=HXe
 rw [←hX] at hout
 have HX:=qd hX
 clear hX hz hS HQ HW
 rcases hout with ⟨h0,A5,c5,rfl,hr5⟩|⟨h0,rfl⟩
 rotate_left 1
 ·obtain ⟨k,hk⟩:∃k,k=X.1:=⟨_,rfl⟩
  rw [←hk] at h0 ⊢
  have gz:((k:Int) != 0)=true:=by rw [bne_iff_ne];omega
  have H0:=qd h0
  have HKk:=qd hk
  clear h0 hk
  go_wp2_with fail
  go_ret2
  refine ⟨HGr.out,HT2.out,Or.inr ⟨HZ.out,l',HS.out,?_⟩⟩
  rw [←HX.out]
  exact Or.inl ⟨by rw [←HKk.out];exact H0.out,by rw [←HKk.out];rfl⟩
 have HLr:=HLr.out (by rw [←HX.out];exact h0)
 have HGd:=qd (show Good X.2 by rw [HX.out];exact HLr.good)
 have HIk:=qd (show ∀i∈X.2,i.ok by rw [HX.out];exact HLr.oks HOk.out)
 have hkl:X.2.length≤4096:=by rw [HX.out];exact HLr.len
 have H0:=qd h0
 obtain ⟨k,hk⟩:∃k,k=X.2.length:=⟨_,rfl⟩
 rw [←hk] at hr5 hkl ⊢
 have HL1:=qd (load_any X.2 k A5 c5 w2 hk.symm HIk.out hr5.rd (by unfold maxLen;omega))
 clear HLr h0 hr5 hk HOk
 go_wp2_with fail
 refine HL1.out.mono ?_
 rintro e w3 ⟨_,_,_,hb3,hgood|⟨hbad,_⟩⟩
 rotate_left 1
 ·exact absurd HGd.out hbad
 obtain ⟨_,rfl,rfl,q,fb,fo,fc,hq,hqb,rfl,hF⟩:=hgood
 have HQ1:=qd (show w.heap.size≤q∧w.heap.size≤fb from ⟨Nat.le_trans HGr.out.size hq,Nat.le_trans HGr.out.size hqb⟩)
 have HG3:=qd (grow_below HGr.out hb3)
 have HT3:=qd (HT2.out.kept hb3)
 clear hb3 hq hqb HGr HT2 HL1
 go_upto_region 5 with fail
 have hx:=Bk.new w3 53 #[.int .i64 0,.int .i64 0] (l:=[.int .i64 0,.int .i64 0]) rfl
 have hb4:=oneb w3 (.cells #[.int .i64 0,.int .i64 0] 53)
 have hlq:=hF.lp
 generalize World.alloc w3 _=w4 at hx hb4 ⊢
 have hF4:=hF.below hb4
 have HG4:=qd (grow_below HG3.out hb4)
 have HT4:=qd (HT3.out.kept hb4)
 obtain ⟨BB,hBB⟩:∃b,b=w3.heap.size:=⟨_,rfl⟩
 rw [←hBB] at hF4 hx hlq ⊢
 have HF:=qd hF4
 have HX4:=qd (fun n=>hx.kept (below_drewN (Below.refl w4.heap.size w4) n))
 have HBB:=qd (show w.heap.size≤BB by rw [hBB];exact HG3.out.size)
 have HBq:=qd (show BB≠q by omega)
 have y0:=hx.cell 0 rfl
 have y1:=hx.cell 1 rfl
 have yl:=hx.lt
 clear hF hb4 hF4 hBB hlq HG3 HT3 HX4 hx
 go_quiet (fail)
 go_wp2_with fail
 go_ret2
 refine ⟨?_,?_,Or.inr ⟨HZ.out,l',HS.out,?_⟩⟩
 ·exact grow_below HG4.out (below_drewN (Below.refl _ _) _)
 ·exact HT4.out.kept (below_drewN (Below.refl _ _) _)
 rw [←HX.out]
 exact Or.inr ⟨H0.out,BB,q,fb,fo,fc,HQ1.out.1,HQ1.out.2,HBq.out,HBB.out,rfl,HF.out.below ((below_drewN (Below.refl _ _) _).mono HF.out.le)⟩
end Go.Proofs.YtcnebdjhhfnmoaaGreatDoor.Co
namespace Go.Proofs.YtcnebdjhhfnmoaaGreatDoor.Co
open Go.RowKit Go.WideElems Go.Proofs.YtcnebdjhhfnmoaaGreatDoor.Ju Go.Proofs.YtcnebdjhhfnmoaaGreatDoor.Me Go.Proofs.YtcnebdjhhfnmoaaGreatDoor.Ir Go.Proofs.YtcnebdjhhfnmoaaGreatDoor.Lo
def polA:PolV:=⟨[112],2147418112,[],none,0,0,[],none,0,[],none,0⟩
theorem polA_may:polE (polM polA)=0:=by
 have h:=(nm3_word 0 [112] rfl).1
 unfold polE
 rw [if_neg (show ¬wordB (polM polA).name=false by show ¬wordB [112]=false;rw [h];simp),if_neg (by decide),if_neg (by decide),if_neg (by decide)]
 rfl
theorem polA_g (w:World)(tb:Nat):PolG w polA 0 0 0 tb:=
 ⟨⟨Rd.nil _ _ _,(by intro r hr;cases hr),Rd.nil _ _ _,Rd.nil _ _ _⟩,⟨Or.inl rfl,(by intro r hr;cases hr),Or.inl rfl,Or.inl rfl⟩,
   ⟨by simp [polA],by simp [polA],by simp [polA],(by intro r hr;cases hr),(by intro r hr;cases hr),by simp [polA],by simp [polA],(by intro r hr;cases hr),(by intro r hr;cases hr)⟩,
   by show 1≤maxLen;unfold maxLen;omega,(by intro r hr;cases hr),Nat.le_refl _,Nat.le_refl _,rfl,rfl,rfl⟩
theorem least_five:(leastF (planL 2147418112 [])).1=0∧(leastF (planL 2147418112 [])).2.length=5:=by decide
theorem sorted_none {l:List RuleM}(h:Sorted [] l):l=[]:=List.eq_nil_of_length_eq_zero h.len
theorem awake_any (w:World)(hE:Env w):Calls Tryz.prog 7 #[] w (Ju.RetB true w):=by
 have HE:=qd hE
 clear hE
 go_enter Tryz.func7,Tryz.ntmps7
 go_wp2_with fail
 refine (new_any _).mono ?_
 rintro e w1 ⟨rfl,hT,ob,hw1⟩
 have hb1:Below w.heap.size w w1:=by rw [hw1];exact oneb w ob
 have hT1:TS w1 w.heap.size 0:=⟨0,by omega,by omega,hT⟩
 have HB1:=qd hb1
 have HFi:=qd (filter_any polA 0 0 0 w.heap.size 0 w1 (polA_g _ _) hT1 (by omega) (HE.out.below hb1))
 obtain ⟨K,hK⟩:∃K,K=w.heap.size:=⟨_,rfl⟩
 rw [←hK] at HFi ⊢
 have HK:=qd hK
 clear hT hw1 hb1 hT1 hK
 go_wp2_with fail
 refine HFi.out.mono ?_
 clear HFi
 rintro e w2 ⟨hg2,_,hp⟩
 have HB2:=qd (only_below HB1.out hg2 HB1.out.size (by rw [HK.out];exact Nat.le_refl _))
 clear hg2
 rcases hp with ⟨hz,_⟩|⟨_,l',hS,hp⟩
 ·exact absurd polA_may hz
 obtain rfl:=sorted_none hS
 obtain ⟨h0,h5⟩:=least_five
 have h0:(leastF (planL polA.dflt (ofF []))).1=0:=h0
 have h5:(leastF (planL polA.dflt (ofF []))).2.length=5:=h5
 rcases hp with ⟨hz,_⟩|⟨_,BB,q,b,o,c,_,_,_,_,rfl,hF⟩
 ·exact absurd h0 hz
 obtain ⟨X,hX⟩:∃X,X=(leastF (planL polA.dflt (ofF []))).2:=⟨_,rfl⟩
 rw [←hX] at h5 hF
 have HLe:=qd (len_any w2 BB q b o c X 0 0 hF)
 rw [h5] at HLe
 clear hS h0 h5 hX hF
 go_wp2_with fail
 refine HLe.out.mono ?_
 rintro e w3 ⟨rfl,rfl⟩
 go_wp2_with fail
 go_ret
 exact ⟨rfl,HB2.out⟩
end Go.Proofs.YtcnebdjhhfnmoaaGreatDoor.Co
