/- CompilePeeps: the walk. -/
import Derived.Test.YtcnebdjhhfnmoaaGreatDoorK39
import Derived.Test.YtcnebdjhhfnmoaaGreatDoorK29
import Derived.Test.YtcnebdjhhfnmoaaGreatDoorK37
import Derived.Test.YtcnebdjhhfnmoaaGreatDoorK36
import Derived.Test.YtcnebdjhhfnmoaaGreatDoorK38
import Derived.Test.YtcnebdjhhfnmoaaGreatDoorK27
import Derived.Test.YtcnebdjhhfnmoaaGreatDoorK28
import Derived.Test.YtcnebdjhhfnmoaaGreatDoorRows
import Derived.Test.YtcnebdjhhfnmoaaGreatDoorK14
import Derived.ProofKit
import Derived.LaidMore
import Derived.OpenShut
import Derived.Lay
import Derived.LaidSub
import Derived.Stop.Joined
import Derived.Shelf.Vars
import Derived.Lib.LaidTab
import Derived.WalkKit
import Derived.Handed
import Derived.LaidLaws
set_option linter.unusedSimpArgs false
set_option maxHeartbeats 32000000
set_option maxRecDepth 100000
namespace Go.Proofs.YtcnebdjhhfnmoaaGreatDoor.Co
open Go.RowKit Go.WideElems Go.Proofs.YtcnebdjhhfnmoaaGreatDoor.Ju Go.Proofs.YtcnebdjhhfnmoaaGreatDoor.Me Go.Proofs.YtcnebdjhhfnmoaaGreatDoor.Ir Go.Proofs.YtcnebdjhhfnmoaaGreatDoor.Lo
theorem eql_part (p q:PtM) (h:p≠q) (w:World):(binOp .eql 78 (.agg #[.int .u8 p.kd,.int .i64 p.tQ,.int .i64 p.el,.int .u16 p.i.c,.int .u8 p.i.t,.int .u8 p.i.f,.int .u32 p.i.k]) (.agg #[.int .u8 q.kd,.int .i64 q.tQ,.int .i64 q.el,.int .u16 q.i.c,.int .u8 q.i.t,.int .u8 q.i.f,.int .u32 q.i.k])).run Tryz.prog w=.ok (.bool false) w:=by
 rw [run_eql_struct,run_equalIn_agg w 9999 _ _ _ (by simp [Program.fieldsOf,Tryz.underlying78]) (by kernel_rfl)]
 obtain ⟨a,b,c,⟨d,e,f,g⟩⟩:=p
 obtain ⟨a',b',c',⟨d',e',f',g'⟩⟩:=q
 by_cases h0:a=a'
 rotate_left 1
 ·simp [Op.eqFields,Program.fieldsOf,Tryz.underlying78,go_sem,h0]<;>omega
 subst h0
 by_cases h1:b=b'
 rotate_left 1
 ·simp [Op.eqFields,Program.fieldsOf,Tryz.underlying78,go_sem,h1]<;>omega
 subst h1
 by_cases h2:c=c'
 rotate_left 1
 ·simp [Op.eqFields,Program.fieldsOf,Tryz.underlying78,go_sem,h2]<;>omega
 subst h2
 by_cases h3:d=d'
 rotate_left 1
 ·simp [Op.eqFields,Program.fieldsOf,Tryz.underlying78,Tryz.underlying76,go_sem,h3]<;>omega
 subst h3
 by_cases h4:e=e'
 rotate_left 1
 ·simp [Op.eqFields,Program.fieldsOf,Tryz.underlying78,Tryz.underlying76,go_sem,h4]<;>omega
 subst h4
 by_cases h5:f=f'
 rotate_left 1
 ·simp [Op.eqFields,Program.fieldsOf,Tryz.underlying78,Tryz.underlying76,go_sem,h5]<;>omega
 subst h5
 by_cases h6:g=g'
 rotate_left 1
 ·simp [Op.eqFields,Program.fieldsOf,Tryz.underlying78,Tryz.underlying76,go_sem,h6]<;>omega
 subst h6
 exact absurd rfl h
theorem own_off {v v':Value} {X xk:Nat} (hv:v'.ownBlock=v.ownBlock∨v'.ownBlock=some X) (h:∀g,v.ownBlock=some g→g<xk) (hx:xk<X):∀g,v'.ownBlock=some g→g≠xk:=fun g e=>by
 rcases hv with a|a
 ·have:=h g (a.symm.trans e);omega
 ·have:=Option.some.inj (a.symm.trans e);omega
theorem plan_smallL {rules:List RuleV} {l':List RuleM} {cs:List CaV} (hS:Sorted (rules.map RuleV.m) l') (hcs:cs.map CaV.m=ofF l') (hr:rules.length≤100000) (hk:∀r∈rules,r.m.conds.length≤100000) (hok:∀r∈rules,r.m.ok):∀c∈cs,c.brs.length≤100000∧∀b∈c.brs,b.m.conds.length≤100000∧∀q∈b.m.conds,q.ok:=fun c hc=>by
 have hm:c.m∈ofF l':=by rw [←hcs];exact List.mem_map.2 ⟨c,hc,rfl⟩
 obtain ⟨g1,g2⟩:=plan_sub hS c.m hm
 have g3:c.m.brs.length=c.brs.length:=by show (c.brs.map BrV.m).length=_;rw [List.length_map]
 rw [List.length_map] at g1
 refine ⟨by omega,fun b hb=>?_⟩
 obtain ⟨r,hrm,_,_,h4,h5⟩:=g2 b.m (List.mem_map.2 ⟨b,hb,rfl⟩)
 obtain ⟨rv,hrv,rfl⟩:=List.mem_map.1 hrm
 have h1:=hk rv hrv
 exact ⟨by omega,fun q hq=>(hok rv hrv).2.2.2 q (h5 q hq)⟩
theorem nine_recL {w:World} {b o k:Nat} {l:List RcM} {x:RcM} (hc:∀k x,l[k]?=some x→∀j v,(RcM.cells x)[j]?=some v→w.cell? ⟨b,o+(k*9+j),none⟩=some v) (h:l[k]?=some x) :
  w.cell? ⟨b,o+k*9,none⟩=some (.int .u32 x.num)∧w.cell? ⟨b,o+k*9+1,none⟩=some (.int .u32 x.arch)∧w.cell? ⟨b,o+k*9+2,none⟩=some (.int .u64 x.at_)∧w.cell? ⟨b,o+k*9+3,none⟩=some (.int .u64 x.a0)∧w.cell? ⟨b,o+k*9+4,none⟩=some (.int .u64 x.a1)∧w.cell? ⟨b,o+k*9+5,none⟩=some (.int .u64 x.a2)∧w.cell? ⟨b,o+k*9+6,none⟩=some (.int .u64 x.a3)∧w.cell? ⟨b,o+k*9+7,none⟩=some (.int .u64 x.a4)∧w.cell? ⟨b,o+k*9+8,none⟩=some (.int .u64 x.a5):=by
 have hj:=fun j v hv=>hc k x h j v hv
 simp only [←Nat.add_assoc] at hj
 exact ⟨by have:=hj 0 _ rfl;simpa using this,hj 1 _ rfl,hj 2 _ rfl,hj 3 _ rfl,hj 4 _ rfl,hj 5 _ rfl,hj 6 _ rfl,hj 7 _ rfl,hj 8 _ rfl⟩
theorem walk_compilePeeps (s:SmV) (A:Option Addr) (n c:Nat) (PB:Option Addr) (pn pc:Nat) (zs:List Int) (w:World) (hs:SmIn w s) (hl:RecsIn w A n c) (hk:IsRow .u8 w PB pn pc zs) (hE:Env w) :
  Calls Tryz.prog 4 #[.agg s.cells.toArray,.slice A n c,.slice PB pn pc] w (Ju.RetB true w):=by
 have HEn:=Lib.hid hE
 clear hE
 obtain ⟨ni,df,er,hh,srs,SA,sc,dl,DA,dc,gl,GA,gc,kl,KA,kc⟩:=s
 obtain ⟨lr,hlr,hlok,hlR,hlm,hlA⟩:=hl
 obtain ⟨pl,hpl,hp8,hpR,hpm⟩:=row_u8 hk
 show Calls Tryz.prog _ #[.agg #[.int .u8 ni,.int .u8 df,.int .u8 er,.slice SA srs.length sc,.int .u16 hh,.slice DA dl.length dc,.slice GA gl.length gc,.slice KA kl.length kc],.slice A n c,.slice PB pn pc] w _
 have hk1:=Bk.new w 35 #[.int .u8 ni,.int .u8 df,.int .u8 er,.slice SA srs.length sc,.int .u16 hh,.slice DA dl.length dc,.slice GA gl.length gc,.slice KA kl.length kc] (l:=[.int .u8 ni,.int .u8 df,.int .u8 er,.slice SA srs.length sc,.int .u16 hh,.slice DA dl.length dc,.slice GA gl.length gc,.slice KA kl.length kc]) rfl
 have hb:=oneb w (.cells #[.int .u8 ni,.int .u8 df,.int .u8 er,.slice SA srs.length sc,.int .u16 hh,.slice DA dl.length dc,.slice GA gl.length gc,.slice KA kl.length kc] 35)
 have HSm:=Lib.hid (fun W (hb:Below w.heap.size w W)=>smallPolicy_any ni df er hh srs SA _ sc dl DA _ dc gl GA _ gc kl KA _ kc W hs.g1 hs.g2 hs.g3 hs.g4 rfl rfl rfl rfl hs.g5 hs.g6 hs.g7 hs.g8 hs.g9 hs.g10 hs.g11 hs.g12 (hs.g13.below hb) (fun r hr=>(hs.g14 r hr).below hb) (hs.g15.below hb) (hs.g16.below hb) (hs.g17.below hb))
 have HRec:=Lib.hid (fun (hn20:n≤20) nm d rules RA nR Rc hd PA nP Pc QA nQ Qc W (h:Below w.heap.size w W) h1 h2 h3=>records_any nm d rules RA nR Rc hd PA nP Pc QA nQ Qc lr A n c pl PB pn pc W h1 h2 h3 hlr hn20 hlok hlA (hlR.below h) hpl hpm hp8 (hpR.below h))
 have hn63:n≤9223372036854775807:=hlm
 clear hlok hlR hlA hp8 hpR hk hs hlr hpl hlm
 go_enter Tryz.func4,Tryz.ntmps4
 go_upto_region 1 with fail
 generalize World.alloc w _=w2 at hk1 hb ⊢
 have HBw:=Lib.hid hb
 have HK1:=Lib.hid hk1
 clear hk1 hb
 go_wp2_with fail
 refine (Co.awake_any _ (HEn.out.below HBw.out)).mono ?_
 rintro e w3 ⟨rfl,hb3⟩
 have HBw:=Lib.hid (HBw.out.trans (hb3.mono HBw.out.size))
 have HK1:=Lib.hid (HK1.out.kept hb3)
 clear hb3
 by_cases h20:10<n
 ·have g20:(10:Int)<(n:Int):=by omega
  have d20:decide ((10:Int)<(n:Int))=true:=decide_eq_true g20
  clear h20
  go_wp2_with fail
  go_ret
  exact ⟨rfl,HBw.out⟩
 have g20:¬(10:Int)<(n:Int):=by omega
 have d20:decide ((10:Int)<(n:Int))=false:=decide_eq_false g20
 have HRec:=Lib.hid (HRec.out (by omega))
 clear h20
 have t0:=HK1.out.cell 0 rfl
 have t1:=HK1.out.cell 1 rfl
 have t2:=HK1.out.cell 2 rfl
 have t3:=HK1.out.cell 3 rfl
 have t4:=HK1.out.cell 4 rfl
 have t5:=HK1.out.cell 5 rfl
 have t6:=HK1.out.cell 6 rfl
 have t7:=HK1.out.cell 7 rfl
 have tl:=HK1.out.lt
 go_wp2_with fail
 refine (HSm.out _ HBw.out).mono ?_
 clear t0 t1 t2 t3 t4 t5 t6 t7 tl HSm
 rintro e w4 ⟨pn9,pd,rules,RA,Rc,ph,pt9,PA9,Pc,po9,QA9,Qc,rfl,hR4,hOk,hb4⟩
 obtain ⟨nP,hnP⟩:∃n,n=pt9.length:=⟨_,rfl⟩
 obtain ⟨nQ,hnQ⟩:∃n,n=po9.length:=⟨_,rfl⟩
 obtain ⟨nR,hnR⟩:∃n,n=rules.length:=⟨_,rfl⟩
 have hn12:nR≤12:=by rw [hnR];exact hOk.many
 have HSr:=Lib.hid (small_reads (nm:=pn9) (act:=pd) (hd:=ph) hR4)
 have HSq:=Lib.hid (q_small (RA:=RA) (Rc:=Rc) (PA:=PA9) (Pc:=Pc) (QA:=QA9) (Qc:=Qc) hOk)
 have HRR:=Lib.hid (Me.rrd_of HSr.out HSq.out)
 have HPd:=Lib.hid hOk.act32
 have HRok:=Lib.hid (fun r hr=>(hOk.rule r hr).2.2)
 have HR4:=Lib.hid (fun r hr=>(hOk.rule r hr).2.1)
 rw [←hnP,←hnQ,←hnR]
 have HBw:=Lib.hid (HBw.out.trans (hb4.mono HBw.out.size))
 have HNR:=Lib.hid hnR.symm
 clear hb4 hR4 hOk hnP hnQ hnR HK1
 go_upto_region 6 with fail
 have hk7:=Bk.new w4 30 #[.string ⟨pn9.toArray⟩,.int .u32 pd,.slice RA nR Rc,.int .u16 ph,.slice PA9 nP Pc,.slice QA9 nQ Qc] (l:=[.string ⟨pn9.toArray⟩,.int .u32 pd,.slice RA nR Rc,.int .u16 ph,.slice PA9 nP Pc,.slice QA9 nQ Qc]) rfl
 have hb5:=oneb w4 (.cells #[.string ⟨pn9.toArray⟩,.int .u32 pd,.slice RA nR Rc,.int .u16 ph,.slice PA9 nP Pc,.slice QA9 nQ Qc] 30)
 generalize World.alloc w4 _=w5 at hk7 hb5 ⊢
 generalize w4.heap.size=g7 at hk7 ⊢
 have HRR:=Lib.hid (HRR.out.below hb5)
 have HBw:=Lib.hid (HBw.out.trans (hb5.mono HBw.out.size))
 have HK7:=Lib.hid hk7
 clear hk7 hb5 HSr HSq
 have q0:=HK7.out.cell 0 rfl
 have q1:=HK7.out.cell 1 rfl
 have q2:=HK7.out.cell 2 rfl
 have q3:=HK7.out.cell 3 rfl
 have q4:=HK7.out.cell 4 rfl
 have q5:=HK7.out.cell 5 rfl
 have ql:=HK7.out.lt
 have HOf:=Lib.hid (of_anyC ⟨pn9.toArray⟩ pd rules RA nR Rc ph PA9 nP Pc QA9 nQ Qc w5 HNR.out (by omega) HRR.out (fun r hr=>by have:=HR4.out r hr;omega))
 go_wp2_with fail
 refine HOf.out.mono ?_
 clear HOf q0 q1 q2 q3 q4 q5 ql
 rintro e w6 ⟨hb6,l',hS,CA,Cc,cs,hcs,rfl,hP,hcap⟩
 have HS:=Lib.hid hS
 have HCs:=Lib.hid hcs
 have HRR:=Lib.hid (HRR.out.below hb6)
 have HK7:=Lib.hid (HK7.out.kept hb6)
 have HBw:=Lib.hid (HBw.out.trans (hb6.mono HBw.out.size))
 have hcl:cs.length≤12:=by
  have h1:=Go.Proofs.YtcnebdjhhfnmoaaGreatDoor.Ir.plan_len hS
  rw [←hcs,List.length_map,List.length_map] at h1
  have:=HNR.out;omega
 have HSml:=Lib.hid (plan_smallL hS hcs (by have:=HNR.out;omega) (fun r hr=>by have:=HR4.out r hr;omega) HRok.out)
 have HSz:=Lib.hid (of_size (R:=12) (C:=4) hS (by rw [List.length_map];have:=HNR.out;omega) (fun r hr=>by obtain ⟨rv,hrv,rfl⟩:=List.mem_map.1 hr;exact HR4.out rv hrv))
 have hpl:=Lo.plan_len pd (cs.map CaV.m)
 rw [hcs] at hpl
 have hplN:(planL pd (ofF l')).length≤5000:=by have:=HSz.out;omega
 have HFi:=Lib.hid (of_fine hS (fun r hr=>by obtain ⟨rv,hrv,rfl⟩:=List.mem_map.1 hr;exact HRok.out rv hrv))
 have HPf:=Lib.hid (plan_fine HPd.out HFi.out (by
  have h1:=search_cnt pd (ofF l').length 2 (ofF l')
  by_cases h0:ofF l'=[]
  ·rw [h0];show (2:Nat)≤_;omega
  ·have h2:=search_len pd (ofF l').length 2 (ofF l') (Nat.le_refl _) h0
   have:=HSz.out
   omega))
 have HWy:=Lib.hid (show Way (planL pd (ofF l')) from ⟨plan_fwd pd (ofF l'),HPf.out.fin,plan_last pd (ofF l')⟩)
 have HOk:=Lib.hid HPf.out.ok
 have HMs:=Lib.hid (fun (x:RcM) (hx:x.ok) (bs:List Nat) (hb:Sees (recW bs) x)=>show valL (recW bs) (planL pd (ofF l')) 0=saysR pd (rules.map RuleV.m) x from by
  rw [plan_val hb hx (of_cases (sorted_num hS)).1 (fun c hcm b hb q hq=>((HFi.out c hcm).brs b hb).cs q hq),ca_says hS hx])
 obtain ⟨nC,hnC⟩:∃n,n=cs.length:=⟨_,rfl⟩
 have HPl:=Lib.hid (fun W (h:Below w6.heap.size w6 W)=>plan_any cs CA nC Cc pd W ((csin_of hP HSml.out).below h) hnC.symm (by omega) (by omega) (by rw [hcs];omega))
 rw [hcs] at HPl
 rw [←hnC]
 obtain ⟨PL,hPL⟩:∃z,z=planL pd (ofF l'):=⟨_,rfl⟩
 rw [←hPL] at HPl HWy HOk HMs hplN
 obtain ⟨N,hN⟩:∃z,z=PL.length:=⟨_,rfl⟩
 unfold PtPost at HPl
 rw [←hN] at HPl hplN
 have HPk:=Lib.hid hN.symm
 clear hS hcs hb6 hP hcap hcl HSml HSz hpl HFi HPf hnC hPL hN HPd HS HCs
 go_wp2_with fail
 refine (HPl.out _ (Below.refl _ _)).mono ?_
 clear HPl
 rintro e w8 ⟨A1,c1,rfl,hr1,hb8⟩
 have HR1:=Lib.hid hr1
 have HRR:=Lib.hid (HRR.out.below hb8)
 have HK7:=Lib.hid (HK7.out.kept hb8)
 have HBw:=Lib.hid (HBw.out.trans (hb8.mono HBw.out.size))
 clear hr1 hb8
 go_wp2_with fail
 go_loopw [9,34] (fun sv iv wz=>∃(i:Nat) (s:List PtM) (B:Option Addr) (c9:Nat),iv=.int .i64 i∧sv=.slice B s.length c9∧i≤N∧s.length≤2*i∧Hid (VR w8 wz (.slice B s.length c9) s)∧Hid (s=dblL (PL.take i))) (fun _ iv _=>N-(intOf iv).toNat)
 case atStart=>exact ⟨0,[],none,0,rfl,rfl,Nat.zero_le _,Nat.le_refl _,⟨Below.refl _ _,World.ownsRow_nil _ _ _ _⟩,Lib.hid rfl⟩
 case round=>
  rename World=>wz
  obtain ⟨i,s,B,c9,rfl,rfl,hi,hli,HA,HF⟩:=hrel
  by_cases hlt:i<N
  ·obtain ⟨x,hx⟩:∃x,PL[i]?=some x:=⟨_,List.getElem?_eq_getElem (by have:=HPk.out;omega)⟩
   obtain ⟨b,o,hA,hbl,hcell⟩:=(HR1.out.below HA.out.bel).one (f:=PtM.cells) (fun _=>rfl) (by omega) (by omega)
   obtain ⟨c0,c1',c2,c3,c4,c5,c6⟩:=seven_cells hcell hx
   subst hA
   have HT:=Lib.hid (dbl_snoc PL i x hx)
   clear hcell hx
   go_upto_region 11 with fail
   have hb2:=oneb wz (.cells #[.int .u8 x.kd,.int .i64 x.tQ,.int .i64 x.el,.int .u16 x.i.c,.int .u8 x.i.t,.int .u8 x.i.f,.int .u32 x.i.k] 78)
   have hk:=Bk.new wz 78 #[.int .u8 x.kd,.int .i64 x.tQ,.int .i64 x.el,.int .u16 x.i.c,.int .u8 x.i.t,.int .u8 x.i.f,.int .u32 x.i.k] (l:=x.cells) rfl
   generalize World.alloc wz _=w4z at hb2 hk ⊢
   have hvx:∀g,(Value.slice B s.length c9).ownBlock=some g→g<wz.heap.size:=fun g hg=>(Ju.own_ge HA.out.row g hg).2
   obtain ⟨xk,hxk⟩:∃x,x=wz.heap.size:=⟨_,rfl⟩
   rw [←hxk] at hk hvx ⊢
   have HA5:=Lib.hid (HA.out.kept hb2)
   have HVX:=Lib.hid hvx
   have HK5:=Lib.hid hk
   have HW4:=Lib.hid (show xk<w4z.heap.size from hk.lt)
   clear c0 c1' c2 c3 c4 c5 c6 hbl hb2 hk hvx hxk HA
   have y0:=HK5.out.cell 0 rfl
   have y1:=HK5.out.cell 1 rfl
   have y2:=HK5.out.cell 2 rfl
   have y3:=HK5.out.cell 3 rfl
   have y4:=HK5.out.cell 4 rfl
   have y5:=HK5.out.cell 5 rfl
   have y6:=HK5.out.cell 6 rfl
   have yl:=HK5.out.lt
   have HA5b:=Lib.hid (HA5.out.kept (oneb w4z (.cells #[.int .u8 x.kd,.int .i64 x.tQ,.int .i64 x.el,.int .u16 x.i.c,.int .u8 x.i.t,.int .u8 x.i.f,.int .u32 x.i.k] 78)))
   have HK5b:=Lib.hid (HK5.out.kept (oneb w4z (.cells #[.int .u8 x.kd,.int .i64 x.tQ,.int .i64 x.el,.int .u16 x.i.c,.int .u8 x.i.t,.int .u8 x.i.f,.int .u32 x.i.k] 78)))
   obtain ⟨bb,hbb⟩:∃b,b=ldB x:=⟨_,rfl⟩
   rw [←hbb] at HT
   cases bb with
   | false=>
    have HT:=Lib.hid (show s++[x]=dblL (PL.take (i+1)) by rw [HT.out,HF.out];rfl)
    by_cases h2:x.kd=2
    ·have e2:((x.kd:Int)==2)=true:=by rw [h2];rfl
     have e3:((x.i.c:Int)==32)=false:=by
      rw [beq_eq_false_iff_ne]
      intro e
      have h3:ldB x=true:=ldB_true.2 ⟨h2,by omega⟩
      rw [←hbb] at h3;cases h3
     clear hbb h2
     go_wp2_with (at_builtin;refine append_one rfl (.tmp 38) (.tmp 40) 67 78 rfl _ 7 32 infoPart Tryz.underlying67 rfl (by decide) (by decide) w8.heap.size _ (s).length ((s).flatMap PtM.cells) rfl HA5b.out.row w4z.heap.size [.int .u8 x.kd,.int .i64 x.tQ,.int .i64 x.el,.int .u16 x.i.c,.int .u8 x.i.t,.int .u8 x.i.f,.int .u32 x.i.k] rfl rfl (Bk.new w4z _ _ rfl) (pt_one x) (by (try simp only [List.length_append,List.length_cons,List.length_nil]);omega) HA5b.out.bel.size ?_;intro v' w6z hown hgrow hv6;have HA6:=Lib.hid (HA5b.out.more (q:=x) hown hgrow);have HK6:=Lib.hid (HK5b.out.grown hgrow (fun e=>by have:=HVX.out _ e.symm;omega));clear y0 y1 y2 y3 y4 y5 y6 yl hown;obtain ⟨A7,c7,hv7⟩:=HA6.out.slice;obtain ⟨n7,hn7⟩:∃n7,n7=(s++[x]).length:=⟨_,rfl⟩;rw [←hn7] at hv7;subst hv7;have HN7:=Lib.hid hn7;clear hn7;have y0:=HK6.out.cell 0 rfl;have y1:=HK6.out.cell 1 rfl;have y2:=HK6.out.cell 2 rfl;have y3:=HK6.out.cell 3 rfl;have y4:=HK6.out.cell 4 rfl;have y5:=HK6.out.cell 5 rfl;have y6:=HK6.out.cell 6 rfl;have yl:=HK6.out.lt)
     rw [HN7.out] at HA6
     go_roundw
     case rel=>exact ⟨i+1,s++[x],A7,c7,by go_num,by rw [HN7.out],by omega,by simp only [List.length_append,List.length_cons,List.length_nil];omega,HA6,HT⟩
     case measure=>simp [intOf];omega
    ·have e2:((x.kd:Int)==2)=false:=by rw [beq_eq_false_iff_ne];omega
     clear hbb h2
     go_wp2_with (at_builtin;refine append_one rfl (.tmp 38) (.tmp 40) 67 78 rfl _ 7 32 infoPart Tryz.underlying67 rfl (by decide) (by decide) w8.heap.size _ (s).length ((s).flatMap PtM.cells) rfl HA5b.out.row w4z.heap.size [.int .u8 x.kd,.int .i64 x.tQ,.int .i64 x.el,.int .u16 x.i.c,.int .u8 x.i.t,.int .u8 x.i.f,.int .u32 x.i.k] rfl rfl (Bk.new w4z _ _ rfl) (pt_one x) (by (try simp only [List.length_append,List.length_cons,List.length_nil]);omega) HA5b.out.bel.size ?_;intro v' w6z hown hgrow hv6;have HA6:=Lib.hid (HA5b.out.more (q:=x) hown hgrow);have HK6:=Lib.hid (HK5b.out.grown hgrow (fun e=>by have:=HVX.out _ e.symm;omega));clear y0 y1 y2 y3 y4 y5 y6 yl hown;obtain ⟨A7,c7,hv7⟩:=HA6.out.slice;obtain ⟨n7,hn7⟩:∃n7,n7=(s++[x]).length:=⟨_,rfl⟩;rw [←hn7] at hv7;subst hv7;have HN7:=Lib.hid hn7;clear hn7;have y0:=HK6.out.cell 0 rfl;have y1:=HK6.out.cell 1 rfl;have y2:=HK6.out.cell 2 rfl;have y3:=HK6.out.cell 3 rfl;have y4:=HK6.out.cell 4 rfl;have y5:=HK6.out.cell 5 rfl;have y6:=HK6.out.cell 6 rfl;have yl:=HK6.out.lt)
     rw [HN7.out] at HA6
     go_roundw
     case rel=>exact ⟨i+1,s++[x],A7,c7,by go_num,by rw [HN7.out],by omega,by simp only [List.length_append,List.length_cons,List.length_nil];omega,HA6,HT⟩
     case measure=>simp [intOf];omega
   | true=>
    have HT:=Lib.hid (show (s++[x])++[x]=dblL (PL.take (i+1)) by rw [HT.out,HF.out,List.append_assoc];rfl)
    obtain ⟨h2,h32⟩:=ldB_true.1 hbb.symm
    have e2:((x.kd:Int)==2)=true:=by rw [h2];rfl
    have e3:((x.i.c:Int)==32)=true:=by rw [h32];rfl
    clear hbb h2 h32
    go_wp2_with (first|(at_builtin;refine append_one rfl (.tmp 38) (.tmp 40) 67 78 rfl _ 7 32 infoPart Tryz.underlying67 rfl (by decide) (by decide) w8.heap.size _ (s).length ((s).flatMap PtM.cells) rfl HA5b.out.row w4z.heap.size [.int .u8 x.kd,.int .i64 x.tQ,.int .i64 x.el,.int .u16 x.i.c,.int .u8 x.i.t,.int .u8 x.i.f,.int .u32 x.i.k] rfl rfl (Bk.new w4z _ _ rfl) (pt_one x) (by (try simp only [List.length_append,List.length_cons,List.length_nil]);omega) HA5b.out.bel.size ?_;intro v' w6z hown hgrow hv6;have HA6:=Lib.hid (HA5b.out.more (q:=x) hown hgrow);have HK6:=Lib.hid (HK5b.out.grown hgrow (fun e=>by have:=HVX.out _ e.symm;omega));clear y0 y1 y2 y3 y4 y5 y6 yl hown;obtain ⟨A7,c7,hv7⟩:=HA6.out.slice;obtain ⟨n7,hn7⟩:∃n7,n7=(s++[x]).length:=⟨_,rfl⟩;rw [←hn7] at hv7;subst hv7;have HN7:=Lib.hid hn7;clear hn7;have y0:=HK6.out.cell 0 rfl;have y1:=HK6.out.cell 1 rfl;have y2:=HK6.out.cell 2 rfl;have y3:=HK6.out.cell 3 rfl;have y4:=HK6.out.cell 4 rfl;have y5:=HK6.out.cell 5 rfl;have y6:=HK6.out.cell 6 rfl;have yl:=HK6.out.lt;have HVX6:=Lib.hid (own_off hv6 HVX.out (by have:=HW4.out;simp;omega));clear hgrow hv6;have HA6b:=Lib.hid (HA6.out.kept (oneb w6z (.cells #[.int .u8 x.kd,.int .i64 x.tQ,.int .i64 x.el,.int .u16 x.i.c,.int .u8 x.i.t,.int .u8 x.i.f,.int .u32 x.i.k] 78)));have HK6b:=Lib.hid (HK6.out.kept (oneb w6z (.cells #[.int .u8 x.kd,.int .i64 x.tQ,.int .i64 x.el,.int .u16 x.i.c,.int .u8 x.i.t,.int .u8 x.i.f,.int .u32 x.i.k] 78))))|(at_builtin;refine append_one rfl (.tmp 51) (.tmp 53) 67 78 rfl _ 7 32 infoPart Tryz.underlying67 rfl (by decide) (by decide) w8.heap.size _ (s++[x]).length ((s++[x]).flatMap PtM.cells) rfl HA6b.out.row w6z.heap.size [.int .u8 x.kd,.int .i64 x.tQ,.int .i64 x.el,.int .u16 x.i.c,.int .u8 x.i.t,.int .u8 x.i.f,.int .u32 x.i.k] rfl rfl (Bk.new w6z _ _ rfl) (pt_one x) (by (try simp only [List.length_append,List.length_cons,List.length_nil]);omega) HA6b.out.bel.size ?_;intro v' w7z hown hgrow hv6;have HA8:=Lib.hid (HA6b.out.more (q:=x) hown hgrow);have HK8:=Lib.hid (HK6b.out.grown hgrow (fun e=>HVX6.out _ e.symm rfl));clear y0 y1 y2 y3 y4 y5 y6 yl hown;obtain ⟨A8,c8,hv7⟩:=HA8.out.slice;obtain ⟨n8,hn7⟩:∃n7,n7=(s++[x]++[x]).length:=⟨_,rfl⟩;rw [←hn7] at hv7;subst hv7;have HN8:=Lib.hid hn7;clear hn7;have y0:=HK8.out.cell 0 rfl;have y1:=HK8.out.cell 1 rfl;have y2:=HK8.out.cell 2 rfl;have y3:=HK8.out.cell 3 rfl;have y4:=HK8.out.cell 4 rfl;have y5:=HK8.out.cell 5 rfl;have y6:=HK8.out.cell 6 rfl;have yl:=HK8.out.lt))
    rw [HN8.out] at HA8
    go_roundw
    case rel=>exact ⟨i+1,(s++[x])++[x],A8,c8,by go_num,by rw [HN8.out],by omega,by simp only [List.length_append,List.length_cons,List.length_nil];omega,HA8,HT⟩
    case measure=>simp [intOf];omega
  ·obtain rfl:i=N:=by omega
   have HsE:=Lib.hid (show s=dblL PL by rw [HF.out,List.take_of_length_le (Nat.le_of_eq HPk.out)])
   have HR9:=Lib.hid (own_rd HA.out.row)
   have HB8:=Lib.hid HA.out.bel
   obtain ⟨m9,hm9⟩:∃m,m=s.length:=⟨_,rfl⟩
   rw [←hm9] at HR9 hli ⊢
   have HM9:=Lib.hid hm9
   have HRR:=Lib.hid (HRR.out.below HB8.out)
   have HK7:=Lib.hid (HK7.out.kept HB8.out)
   have HBw:=Lib.hid (HBw.out.trans (HB8.out.mono HBw.out.size))
   clear hm9 HA HF hi hlt HB8
   rename_i wyz
   go_wp2_with fail
   refine (peep_any s m9 B c9 _ HM9.out.symm (by omega) HR9.out).mono ?_
   rintro e w9 ⟨A9,c9',rfl,hr9,hb9⟩
   have HRR:=Lib.hid (HRR.out.below hb9)
   have HK7:=Lib.hid (HK7.out.kept hb9)
   have HBw:=Lib.hid (HBw.out.trans (hb9.mono HBw.out.size))
   have HZr:=Lib.hid (own_rd hr9)
   have hpd:peepF s=peepF PL:=by rw [HsE.out];exact peep_dbl PL zPt
   rw [hpd] at HZr ⊢
   have HWz:=Lib.hid HWy.out.peep
   have HOz:=Lib.hid (peepF_oks HOk.out)
   have HMs:=Lib.hid (fun (x:RcM) (hx:x.ok) (bs:List Nat) (hb:Sees (recW bs) x)=>(peepF_val (recW bs) PL 0).trans (HMs.out x hx bs hb))
   have hlz:(peepF PL).length≤i:=by have:=peep_len PL zPt;have:=HPk.out;show (peepS zPt PL).length≤i;omega
   have HNx:=Lib.hid (fun i a b (h1:(peepF PL)[i]?=some a) (h2:(peepF PL)[i+1]?=some b) (h3:ldB b=true)=>peep_next PL zPt i a b h1 h2 h3)
   obtain ⟨ZL,hZL⟩:∃z,z=peepF PL:=⟨_,rfl⟩
   rw [←hZL] at HZr HWz HOz HMs hlz HNx ⊢
   obtain ⟨M,hM⟩:∃z,z=ZL.length:=⟨_,rfl⟩
   rw [←hM] at HZr hlz ⊢
   have HMk:=Lib.hid hM.symm
   clear hr9 hb9 hpd hZL hM HWy HsE HR9 HM9 HOk HR1 HPk
   go_wp2_with fail
   refine (make_any ZL M A9 c9' w9 HMk.out (by omega) HOz.out HZr.out).mono ?_
   rintro e w10 ⟨hb10,hmk,hbad⟩
   have HZr:=Lib.hid (HZr.out.below hb10)
   have HZb:=HZr
   have HRR:=Lib.hid (HRR.out.below hb10)
   have HK7:=Lib.hid (HK7.out.kept hb10)
   have HBw:=Lib.hid (HBw.out.trans (hb10.mono HBw.out.size))
   clear hb10
   rcases HWz.out.made with hm|hm
   rotate_left 1
   ·have hbd:=hbad (by rw [hm];decide)
    rw [hm] at hbd
    subst hbd
    clear hmk hbad hm
    go_wp2_with fail
    go_ret
    exact ⟨rfl,HBw.out⟩
   obtain ⟨v,hr,rfl⟩:=hmk hm.ok
   have HIk:=Lib.hid (make_oks ZL HOz.out hm.ok)
   have HIl:=Lib.hid (make_len ZL hm.ok)
   have HGd:=Lib.hid hm.good
   have HSay:=Lib.hid (fun (x:RcM) (hx:x.ok) (bs:List Nat) (hb:Sees (recW bs) x)=>(hm.says (recW bs)).trans (HMs.out x hx bs hb))
   obtain ⟨ins,hins⟩:∃i,i=(makeF ZL).2.ins:=⟨_,rfl⟩
   rw [←hins] at hr HIk HIl HGd HSay
   obtain ⟨K,hK⟩:∃K,K=ins.length:=⟨_,rfl⟩
   rw [←hK] at hr HIl
   have hK4:K≤4096:=HIl.out
   obtain ⟨Aa,ca,rfl,_⟩:=own_typed hr
   have HKl:=Lib.hid hK.symm
   have HL1:=Lib.hid (load_any ins K Aa ca w10 hK.symm HIk.out (own_rdI hr) (by unfold maxLen;omega))
   have g32:¬(i:Int)<(M:Int):=by omega
   have d32:decide ((i:Int)<(M:Int))=false:=decide_eq_false g32
   clear hmk hbad hm hr hins hK HMs HIl HWz HOz
   have HBw9:=HBw
   go_wp2_with fail
   refine HL1.out.mono ?_
   rintro e w11 ⟨_,_,_,hb3,hgood|⟨hbad,_⟩⟩
   rotate_left 1
   ·exact absurd HGd.out hbad
   obtain ⟨_,rfl,rfl,p,fb,fo,fc,hp,hpb,rfl,hF⟩:=hgood
   have HPw:=Lib.hid (show w.heap.size≤p from Nat.le_trans HBw.out.size hp)
   have HPw2:=Lib.hid (show w10.heap.size≤p from hp)
   have HBw:=Lib.hid (HBw.out.trans (hb3.mono HBw.out.size))
   have HB23:=Lib.hid hb3
   go_upto_region 20 with fail
   have hx:=Bk.new w11 53 #[.int .i64 0,.int .i64 0] (l:=[.int .i64 0,.int .i64 0]) rfl
   have hb4:=oneb w11 (.cells #[.int .i64 0,.int .i64 0] 53)
   generalize World.alloc w11 _=w12 at hx hb4 ⊢
   have hF4:=hF.below hb4
   obtain ⟨BB,hBB⟩:∃b,b=w11.heap.size:=⟨_,rfl⟩
   have HBw:=Lib.hid (HBw.out.trans (hb4.mono HBw.out.size))
   have HB24:=Lib.hid (HB23.out.trans (hb4.mono HB23.out.size))
   rw [←hBB] at hF4 hx ⊢
   have HF:=Lib.hid hF4
   have HX:=Lib.hid hx
   have HXp:=Lib.hid (show BB≠p by have:=hF4.lp;omega)
   clear hb3 hp hpb hF hx hb4 hF4 hBB HL1 HB23
   have HZr:=Lib.hid (HZr.out.below HB24.out)
   have y0:=HX.out.cell 0 rfl
   have y1:=HX.out.cell 1 rfl
   have yl:=HX.out.lt
   have hQ:∀W:World,(binOp .neq 53 (.agg #[.int .i64 0,.int .i64 0]) (.agg #[.int .i64 0,.int .i64 0])).run Tryz.prog W=.ok (.bool false) W:=fun W=>by kernel_rfl
   have hk7:=HK7.out.kept HB24.out
   have q0:=hk7.cell 0 rfl
   have q1:=hk7.cell 1 rfl
   have q2:=hk7.cell 2 rfl
   have q3:=hk7.cell 3 rfl
   have q4:=hk7.cell 4 rfl
   have q5:=hk7.cell 5 rfl
   have ql:=hk7.lt
   clear hk7
   go_wp2_with fail
   refine (HRec.out ⟨pn9.toArray⟩ pd rules RA nR Rc ph PA9 nP Pc QA9 nQ Qc w12 HBw.out HNR.out (by omega) (HRR.out.below HB24.out)).mono ?_
   clear q0 q1 q2 q3 q4 q5 ql y0 y1 yl hQ HRec HX HXp g32 d32
   rintro e w13 ⟨⟨rs,cA,cc,rfl,hl50,hrok,hrt⟩,hb13⟩
   have HF:=Lib.hid (HF.out.below (hb13.mono HF.out.le))
   have HB9:=Lib.hid (HB24.out.trans (hb13.mono HB24.out.size))
   have HW9:=Lib.hid (show Below w.heap.size w w10 from HBw9.out)
   have HZr:=Lib.hid (HZr.out.below hb13)
   have HZo:=Lib.hid (show ∀g o',A9=some ⟨g,o',none⟩→g<w10.heap.size∨True from fun _ _ _=>Or.inr trivial)
   have HRok2:=Lib.hid hrok
   obtain ⟨nK,hnK⟩:∃n,rs.length=n:=⟨_,rfl⟩
   rw [hnK] at hl50 hrt ⊢
   have HnK:=Lib.hid hnK
   have HRt:=Lib.hid hrt
   clear hb13 hrok hnK hrt HB24 HBw HBw9 HZo
   go_wp2_with fail
   have HZ10:=Lib.hid (show Rd w10 7 M A9 (ZL.flatMap PtM.cells) from HZb.out)
   go_loopw [87] (fun iv wz=>∃j st:Nat,iv=.int .i64 j∧j≤nK∧st≤4096*j∧Hid (Fil wz BB p fb fo fc ins j st)∧Hid (Below w10.heap.size w10 wz)∧Hid (TRd wz 60 9 nK cA (rs.flatMap RcM.cells))) (fun iv _=>nK-(intOf iv).toNat)
   case atStart=>exact ⟨0,0,rfl,Nat.zero_le _,by omega,HF,HB9,HRt⟩
   case round=>
    clear HF HB9 HRt
    rename World=>wz
    obtain ⟨j,st,rfl,hj,hst,HF,HB9,HRt⟩:=hrel
    by_cases hin:j<nK
    ·obtain ⟨x,hx⟩:∃x,rs[j]?=some x:=⟨_,List.getElem?_eq_getElem (by have:=HnK.out;omega)⟩
     have HXo:=Lib.hid (HRok2.out x (List.mem_of_getElem? hx))
     obtain ⟨b3,o3,hA3,hb3,hcell⟩:=HRt.out.rd.one (f:=RcM.cells) (fun _=>rfl) (by omega) (by omega)
     subst hA3
     obtain ⟨c0,c1',c2,c3,c4,c5,c6,c7,c8⟩:=nine_recL hcell hx
     clear hcell hx
     go_upto_region 25 with fail
     have hbx:=oneb wz (.cells #[.int .u32 x.num,.int .u32 x.arch,.int .u64 x.at_,.int .u64 x.a0,.int .u64 x.a1,.int .u64 x.a2,.int .u64 x.a3,.int .u64 x.a4,.int .u64 x.a5] 60)
     have hkx:=Bk.new wz 60 #[.int .u32 x.num,.int .u32 x.arch,.int .u64 x.at_,.int .u64 x.a0,.int .u64 x.a1,.int .u64 x.a2,.int .u64 x.a3,.int .u64 x.a4,.int .u64 x.a5] (l:=x.cells) rfl
     clear c0 c1' c2 c3 c4 c5 c6 c7 c8
     generalize World.alloc wz _=w14 at hbx hkx ⊢
     generalize wz.heap.size=gx at hkx ⊢
     have HF:=Lib.hid (HF.out.below (hbx.mono HF.out.le))
     have HB9:=Lib.hid (HB9.out.trans (hbx.mono HB9.out.size))
     have HRt:=Lib.hid (HRt.out.below hbx)
     have HKx:=Lib.hid hkx
     obtain ⟨bs,hbs,hrl,hse⟩:=rec_bs x HXo.out
     have hnl:=run_len (recW bs) ins
     rw [HKl.out] at hnl
     have R1:=Lib.hid (run_any bs ins BB p fb fo fc j st w14 HF.out HGd.out HIk.out hbs (smJ (by omega)) (smJ (by omega)))
     unfold RunTo at R1
     have hsy:=HSay.out x HXo.out bs hse
     rw [hsy,hrl] at R1
     have HSs:=Lib.hid (fun W (h:Below w10.heap.size w10 W)=>Me.says_any ⟨pn9.toArray⟩ pd rules RA nR Rc ph PA9 nP Pc QA9 nQ Qc x W HNR.out (by omega) (HRR.out.below h) HXo.out)
     obtain ⟨sv,hsv⟩:∃s,s=saysR pd (rules.map RuleV.m) x:=⟨_,rfl⟩
     rw [←hsv] at R1 HSs
     unfold RetU at HSs
     obtain ⟨n9,hn9⟩:∃n,n=(runN (recW bs) ins).1.length:=⟨_,rfl⟩
     rw [←hn9] at R1 hnl
     have esv:((sv:Int) != (sv:Int))=false:=by simp
     have y0:=hkx.cell 0 rfl
     have y1:=hkx.cell 1 rfl
     have y2:=hkx.cell 2 rfl
     have y3:=hkx.cell 3 rfl
     have y4:=hkx.cell 4 rfl
     have y5:=hkx.cell 5 rfl
     have y6:=hkx.cell 6 rfl
     have y7:=hkx.cell 7 rfl
     have y8:=hkx.cell 8 rfl
     have yl:=hkx.lt
     clear hbs hrl hse hsy hsv hn9 hbx hkx hb3
     go_wp2_with fail
     refine R1.out.mono ?_
     clear y0 y1 y2 y3 y4 y5 y6 y7 y8 yl R1
     rintro e w15 ⟨rfl,hf,hg⟩
     have HTy:=Lib.hid HF.out.bk.tyb
     have HKx:=Lib.hid (HKx.out.grown hg (fun e=>(HKx.out.tyb.ne HTy.out (by decide)) (Option.some.inj e)))
     have HRt:=Lib.hid (HRt.out.grown hg (HRt.out.off HTy.out (by decide)))
     have HB9:=Lib.hid (only_below HB9.out hg HB9.out.size HPw2.out)
     have HF:=Lib.hid hf
     clear hf hg HTy
     have hkx:=HKx.out
     have y0:=hkx.cell 0 rfl
     have y1:=hkx.cell 1 rfl
     have y2:=hkx.cell 2 rfl
     have y3:=hkx.cell 3 rfl
     have y4:=hkx.cell 4 rfl
     have y5:=hkx.cell 5 rfl
     have y6:=hkx.cell 6 rfl
     have y7:=hkx.cell 7 rfl
     have y8:=hkx.cell 8 rfl
     have yl:=hkx.lt
     have hk7:=HK7.out.kept HB9.out
     have q0:=hk7.cell 0 rfl
     have q1:=hk7.cell 1 rfl
     have q2:=hk7.cell 2 rfl
     have q3:=hk7.cell 3 rfl
     have q4:=hk7.cell 4 rfl
     have q5:=hk7.cell 5 rfl
     have ql:=hk7.lt
     clear hkx hk7
     go_wp2_with fail
     refine (HSs.out _ HB9.out).mono ?_
     clear y0 y1 y2 y3 y4 y5 y6 y7 y8 yl q0 q1 q2 q3 q4 q5 ql
     rintro e w16 ⟨rfl,hb16⟩
     have HF:=Lib.hid (HF.out.below (hb16.mono HF.out.le))
     have HRt:=Lib.hid (HRt.out.below hb16)
     have HB9:=Lib.hid (HB9.out.trans (hb16.mono HB9.out.size))
     clear hb16
     go_wp2_with fail
     go_roundw
     case rel=>exact ⟨j+1,st+n9,by go_num,by omega,by omega,HF,HB9,HRt⟩
     case measure=>simp [intOf];omega
    ·have HZ:=Lib.hid (HZ10.out.below HB9.out)
     have HBw:=Lib.hid (HW9.out.trans (HB9.out.mono HW9.out.size))
     clear HF HB9 HRt HW9 HZ10 HZr HRR HK7 HSay HIk HGd HKl HRok2 HnK
     rename World=>w20
     go_wp2_with fail
     go_loopw [21] (fun iv wz=>∃i:Nat,iv=.int .i64 i∧1≤i∧Hid (Below w20.heap.size w20 wz)) (fun iv _=>M-(intOf iv).toNat)
     case atStart=>exact ⟨1,rfl,Nat.le_refl _,Lib.hid (Below.refl _ _)⟩
     case round=>
      rename World=>wz
      obtain ⟨j,rfl,hj1,HB⟩:=hrel
      by_cases hin:j<M
      ·obtain ⟨x,hx⟩:∃x,ZL[j]?=some x:=⟨_,List.getElem?_eq_getElem (by have:=HMk.out;omega)⟩
       obtain ⟨y,hy⟩:∃y,ZL[j-1]?=some y:=⟨_,List.getElem?_eq_getElem (by have:=HMk.out;omega)⟩
       obtain ⟨b,o,hA,hbl,hcell⟩:=(HZ.out.below HB.out).one (f:=PtM.cells) (fun _=>rfl) (by omega) (by omega)
       subst hA
       obtain ⟨c0,c1,c2,c3,c4,c5,c6⟩:=seven_cells hcell hx
       obtain ⟨d0,d1,d2,d3,d4,d5,d6⟩:=seven_cells hcell hy
       have HNe:=Lib.hid (fun h3=>HNx.out (j-1) y x hy (by rw [show j-1+1=j from by omega];exact hx) h3)
       have ej:IntKind.i64.wrap ((j:Int)-1)=((j-1:Nat):Int):=by rw [IntKind.wrap_i64];omega
       obtain ⟨j1,hj⟩:∃j1,j1=j-1:=⟨_,rfl⟩
       rw [←hj] at d0 d1 d2 d3 d4 d5 d6 ej
       have hlj:j1<M:=by omega
       clear hcell hx hy hj
       by_cases h2:x.kd=2
       rotate_left 1
       ·have e2:((x.kd:Int)==2)=false:=by rw [beq_eq_false_iff_ne];omega
        clear h2 HNe
        go_upto_region 32 with fail
        go_quiet (fail)
        go_wp2_with fail
        go_roundw
        case rel=>exact ⟨j+1,by go_num,by omega,Lib.hid (HB.out.trans ((below_drewN (Below.refl _ _) _).mono HB.out.size))⟩
        case measure=>simp [intOf];omega
       have e2:((x.kd:Int)==2)=true:=by rw [h2];rfl
       by_cases h3:x.i.c=32
       rotate_left 1
       ·have e3:((x.i.c:Int)==32)=false:=by rw [beq_eq_false_iff_ne];omega
        clear h2 h3 HNe
        go_upto_region 32 with fail
        go_quiet (fail)
        go_wp2_with fail
        go_roundw
        case rel=>exact ⟨j+1,by go_num,by omega,Lib.hid (HB.out.trans ((below_drewN (Below.refl _ _) _).mono HB.out.size))⟩
        case measure=>simp [intOf];omega
       have e3:((x.i.c:Int)==32)=true:=by rw [h3];rfl
       have hne:=HNe.out (ldB_true.2 ⟨h2,h3⟩)
       have hEq:=eql_part y x hne
       clear h2 h3 HNe hne
       go_upto_region 32 with fail
       go_quiet (fail)
       go_wp2_with fail
       go_roundw
       case rel=>exact ⟨j+1,by go_num,by omega,Lib.hid (HB.out.trans ((below_drewN (Below.refl _ _) _).mono HB.out.size))⟩
       case measure=>simp [intOf];omega
      ·have gj:¬(j:Int)<(M:Int):=by omega
       go_wp2_with fail
       go_ret
       exact ⟨rfl,HBw.out.trans (HB.out.mono HBw.out.size)⟩
end Go.Proofs.YtcnebdjhhfnmoaaGreatDoor.Co
namespace Go.Proofs.YtcnebdjhhfnmoaaGreatDoor
open Go.ChangeShapes Go.WideShapes Go.ChangeAt Go.WideElems Go.RowKit
def laidL : List (String × DataW Unit) := [("unicode/utf8.acceptRanges", Rows.laid_unicode_utf8_acceptRanges), ("unicode/utf8.first", Rows.laid_unicode_utf8_first)]
theorem env_of {W:World} (_:laidMetH Tryz.prog laidL W) (hsh:W.ShapedOpen Tryz.prog):Env W:=
 ⟨cell_of_shapedOpen_int (P:=Tryz.prog) (g:=0) (t:=3) (zero:=#[.int .i64 0]) hsh (of_decide_eq_true (by kernel_rfl)) (by kernel_rfl) rfl (by kernel_rfl) (by kernel_rfl) Tryz.underlying3⟩
theorem laid_met (os:Os) (args:Array Value):laidMetH Tryz.prog laidL ((World.laidAll Tryz.prog os laidL).forCall (fun _ _=>0) ⟨#[],args,[]⟩).memory:=by
 rw [MakeChecks.laidMetH_plain _ _ _ (by kernel_rfl)]
 exact laidMet_laidAll _ (by kernel_rfl) (by kernel_rfl)
theorem laid_shaped (os:Os) (args:Array Value):((World.laidAll Tryz.prog os laidL).forCall (fun _ _=>0) ⟨#[],args,[]⟩).Shaped Tryz.prog:=World.shaped_of_ZipB (by kernel_rfl) (by kernel_rfl)
end Go.Proofs.YtcnebdjhhfnmoaaGreatDoor
namespace Go.Proofs.YtcnebdjhhfnmoaaGreatDoor
open Go.ChangeShapes Go.WideShapes Go.ChangeAt Go.RowKit
theorem own_knob:ownKnob Tryz.prog.godebug=none:=by kernel_rfl
theorem env_wrap {H:Type} {enc:TypeId×Value→H} {os:Os} {f:FuncId} {fn:Func} {s:ChangeSpec} (started:os.Started) (noInit:Tryz.prog.inits.idxOf? f=none) (hfn:Tryz.prog.funcs[f]?=some fn) (args0:Array Value)
  (hok:Input.okWideB Tryz.prog ((World.laidAll Tryz.prog os laidL).forCall (fun _ _=>0) ⟨#[],args0,[]⟩) f ⟨#[],args0,[]⟩=true)
  (hpre:s.preB enc Tryz.prog fn [] false ((World.laidAll Tryz.prog os laidL).forCall (fun _ _=>0) ⟨#[],args0,[]⟩).memory args0 8=true)
  (hsz:s.sizedB enc Tryz.prog fn false ((World.laidAll Tryz.prog os laidL).forCall (fun _ _=>0) ⟨#[],args0,[]⟩).memory args0 8=true)
  (walk:∀(W:World) (base:Nat) (args:Array Value) (ds gs:List (DataW H)) (before:List MemPlace),
   (∀(j:Nat) t v,fn.params[j]?=some t→args[j]?=some v→Value.okWide Tryz.prog W .any base t v) →
   DataW.Whole enc Tryz.prog fn.params.toList s.vars false W args.toList ds gs before→Env W →
   Calls Tryz.prog f args W fun e W'=>∃v,e=.returned v∧s.post enc Tryz.prog fn false true false false W args v W') :
  ReturnsInHanded {} Tryz.checked os f .any (fun w args=>(s.pre enc Tryz.prog fn [] false w args∧laidMetH Tryz.prog laidL w)∧sizedMet enc Tryz.prog fn (OpenSpec.ofChange s) false w args) (s.post enc Tryz.prog fn false true false false):=by
 refine returnsInHanded_of_calls (C:=Tryz.checked) own_knob started noInit
  (ChangeSpec.witness_shaped (enc:=enc) (C:=Tryz.checked) (os:=os) (X:=fun w _=>laidMetH Tryz.prog laidL w) false (World.laidAll Tryz.prog os laidL) args0 8 (World.laidAll_os _ _ _) (laid_shaped os args0) hok hpre hsz (laid_met os args0)) ?_
 intro w tape i _ shape _ fits pre _
 obtain ⟨_,_,_,fn',h1,_,_,_,_,vals⟩:=fits
 cases hfn.symm.trans h1
 have whole:=pre.1.1
 obtain ⟨ds,gs,before,hw,_⟩:=whole
 have env:Env (w.forCall tape i):=env_of (pre.1.2.of_heap (by rfl)) shape
 have:=walk (w.forCall tape i) w.heap.size i.args ds gs before vals (DataW.Whole.of_heap (w':=w.forCall tape i) (by rfl) hw) env
 exact this.mono fun e W' ⟨v,he,hp⟩=>by rw [he];exact ChangeSpec.post_blind hp
end Go.Proofs.YtcnebdjhhfnmoaaGreatDoor
