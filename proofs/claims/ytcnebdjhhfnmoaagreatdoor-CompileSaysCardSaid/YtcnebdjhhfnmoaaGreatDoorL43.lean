/- CompileSays: the walk. -/
import Derived.Test.YtcnebdjhhfnmoaaGreatDoorL42
import Derived.Test.YtcnebdjhhfnmoaaGreatDoorL01
set_option maxHeartbeats 32000000
set_option maxRecDepth 100000
namespace Go.Proofs.YtcnebdjhhfnmoaaGreatDoor.Co
open Go.RowKit Go.WideElems Go.Proofs.YtcnebdjhhfnmoaaGreatDoor.Ju Go.Proofs.YtcnebdjhhfnmoaaGreatDoor.Me Go.Proofs.YtcnebdjhhfnmoaaGreatDoor.Ir Go.Proofs.YtcnebdjhhfnmoaaGreatDoor.Lo
theorem walk_compileSays (p:PolV)(s:SmV)(A:Option Addr)(n c:Nat)(PB:Option Addr)(pn pc:Nat)(zs:List Int)(w:World)(hp:PolIn w p)(hs:SmIn w s)(hl:RecsIn w A n c)(hk:IsRow .u8 w PB pn pc zs)(hE:Env w) :
  Calls Tryz.prog 3 #[.agg p.cells.toArray,.agg s.cells.toArray,.slice A n c,.slice PB pn pc] w (Ju.RetB true w):=by
 have HEn:=qd hE
 clear hE
 obtain ⟨nm,dflt,rules,RA,Rc,hd,paths,PA,Pc,ports,QA,Qc⟩:=p
 obtain ⟨ni,df,er,hh,srs,SA,sc,dl,DA,dc,gl,GA,gc,kl,KA,kc⟩:=s
 obtain ⟨lr,hlr,hlok,hlR,hlm,hlA⟩:=hl
 obtain ⟨pl,hpl,hp8,hpR,hpm⟩:=row_u8 hk
 show Calls Tryz.prog _ #[.agg #[.string ⟨nm.toArray⟩,.int .u32 dflt,.slice RA rules.length Rc,.int .u16 hd,.slice PA paths.length Pc,.slice QA ports.length Qc],.agg #[.int .u8 ni,.int .u8 df,.int .u8 er,.slice SA srs.length sc,.int .u16 hh,.slice DA dl.length dc,.slice GA gl.length gc,.slice KA kl.length kc],.slice A n c,.slice PB pn pc] w _
 obtain ⟨hk1,hk2,hb⟩:=two_new w #[.string ⟨nm.toArray⟩,.int .u32 dflt,.slice RA rules.length Rc,.int .u16 hd,.slice PA paths.length Pc,.slice QA ports.length Qc] #[.int .u8 ni,.int .u8 df,.int .u8 er,.slice SA srs.length sc,.int .u16 hh,.slice DA dl.length dc,.slice GA gl.length gc,.slice KA kl.length kc] 30 35 (la:=[.string ⟨nm.toArray⟩,.int .u32 dflt,.slice RA rules.length Rc,.int .u16 hd,.slice PA paths.length Pc,.slice QA ports.length Qc]) (lb:=[.int .u8 ni,.int .u8 df,.int .u8 er,.slice SA srs.length sc,.int .u16 hh,.slice DA dl.length dc,.slice GA gl.length gc,.slice KA kl.length kc]) rfl rfl
 have HFew:=qd (fun W (h:Below w.heap.size w W)=>few_any nm dflt rules RA _ Rc hd paths PA _ Pc ports QA _ Qc W rfl rfl rfl hp.g3 hp.g4 hp.g5 (fun r hr=>(hp.g9 r hr).2.2.1) (fun x hx=>(hp.g10 x hx).1) (hp.g12.below h))
 have HSm:=qd (fun W (hb:Below w.heap.size w W)=>smallPolicy_any ni df er hh srs SA _ sc dl DA _ dc gl GA _ gc kl KA _ kc W hs.g1 hs.g2 hs.g3 hs.g4 rfl rfl rfl rfl hs.g5 hs.g6 hs.g7 hs.g8 hs.g9 hs.g10 hs.g11 hs.g12 (hs.g13.below hb) (fun r hr=>(hs.g14 r hr).below hb) (hs.g15.below hb) (hs.g16.below hb) (hs.g17.below hb))
 have HRec:=qd (fun (hn20:n≤20) nm d rules RA nR Rc hd PA nP Pc QA nQ Qc W (h:Below w.heap.size w W) h1 h2 h3=>records_anyO nm d rules RA nR Rc hd PA nP Pc QA nQ Qc lr A n c pl PB pn pc W h1 h2 h3 hlr hn20 hlok hlA (hlR.below h) hpl hpm hp8 (hpR.below h))
 have hn63:n≤9223372036854775807:=hlm
 clear hlok hlR hlA hp8 hpR hk hs hlr hpl hlm
 go_enter Tryz.func3,Tryz.ntmps3
 go_upto_region 1 with fail
 generalize (w.alloc _).alloc _=w2 at hk1 hk2 hb ⊢
 have HB2:=qd hb
 have HK1:=qd hk1
 have HK2:=qd hk2
 clear hk1 hk2 hb
 go_wp2_with fail
 refine (Co.awake_any _ (HEn.out.below HB2.out)).mono ?_
 rintro e w3 ⟨rfl,hb3⟩
 have HB3:=qd (HB2.out.trans (hb3.mono HB2.out.size))
 have q0:=(HK1.out.kept hb3).cell 0 rfl
 have q1:=(HK1.out.kept hb3).cell 1 rfl
 have q2:=(HK1.out.kept hb3).cell 2 rfl
 have q3:=(HK1.out.kept hb3).cell 3 rfl
 have q4:=(HK1.out.kept hb3).cell 4 rfl
 have q5:=(HK1.out.kept hb3).cell 5 rfl
 have ql:=(HK1.out.kept hb3).lt
 have HK1:=qd (HK1.out.kept hb3)
 have HK2:=qd (HK2.out.kept hb3)
 clear hb3 HB2
 go_wp2_with fail
 refine (HFew.out _ HB3.out).mono ?_
 clear q0 q1 q2 q3 q4 q5
 rintro e w4 ⟨⟨bf,rfl,hf⟩,hb4⟩
 have HB4:=qd (HB3.out.trans (hb4.mono HB3.out.size))
 have HK1:=qd (HK1.out.kept hb4)
 have HK2:=qd (HK2.out.kept hb4)
 clear hb4 HB3 ql
 cases bf with
 | false=>
  go_wp2_with fail
  go_ret
  exact ⟨rfl,HB4.out⟩
 | true=>
  have HQp:=qd (q_few hp (hf rfl))
  clear hf
  by_cases h20:20<n
  ·have g20:(20:Int)<(n:Int):=by omega
   have d20:decide ((20:Int)<(n:Int))=true:=decide_eq_true g20
   clear h20
   go_wp2_with fail
   go_ret
   exact ⟨rfl,HB4.out⟩
  ·have g20:¬(20:Int)<(n:Int):=by omega
   have d20:decide ((20:Int)<(n:Int))=false:=decide_eq_false g20
   have HRec:=qd (HRec.out (by omega))
   clear h20
   go_wp2_with fail
   refine (new_any _).mono ?_
   rintro e w4n ⟨rfl,hTn,obn,hwn⟩
   have hbn:Below w4.heap.size w4 w4n:=by rw [hwn];exact oneb w4 obn
   have hTt:TS w4n w4.heap.size 0:=⟨0,by omega,by omega,hTn⟩
   obtain ⟨tb,htb⟩:∃t,t=w4.heap.size:=⟨_,rfl⟩
   rw [←htb] at hTt ⊢
   have HTt:=qd hTt
   have HTb:=qd (show w.heap.size≤tb by rw [htb];exact HB4.out.size)
   have HB4:=qd (HB4.out.trans (hbn.mono HB4.out.size))
   have HK1:=qd (HK1.out.kept hbn)
   have HK2:=qd (HK2.out.kept hbn)
   clear hTn hwn hbn hTt htb
   have q0:=HK1.out.cell 0 rfl
   have q1:=HK1.out.cell 1 rfl
   have q2:=HK1.out.cell 2 rfl
   have q3:=HK1.out.cell 3 rfl
   have q4:=HK1.out.cell 4 rfl
   have q5:=HK1.out.cell 5 rfl
   have t0:=HK2.out.cell 0 rfl
   have t1:=HK2.out.cell 1 rfl
   have t2:=HK2.out.cell 2 rfl
   have t3:=HK2.out.cell 3 rfl
   have t4:=HK2.out.cell 4 rfl
   have t5:=HK2.out.cell 5 rfl
   have t6:=HK2.out.cell 6 rfl
   have t7:=HK2.out.cell 7 rfl
   go_upto_region 6 with fail
   refine wp_region_held_drew (S:=(fun w'=>w'.cell? ⟨w.heap.size,0,none⟩=some (.string ⟨nm.toArray⟩)∧w'.cell? ⟨w.heap.size,1,none⟩=some (.int .u32 dflt)∧w'.cell? ⟨w.heap.size,2,none⟩=some (.slice RA rules.length Rc)∧w'.cell? ⟨w.heap.size,3,none⟩=some (.int .u16 hd)∧w'.cell? ⟨w.heap.size,4,none⟩=some (.slice PA paths.length Pc)∧w'.cell? ⟨w.heap.size,5,none⟩=some (.slice QA ports.length Qc)∧w'.cell? ⟨w.heap.size+1,0,none⟩=some (.int .u8 ni)∧w'.cell? ⟨w.heap.size+1,1,none⟩=some (.int .u8 df)∧w'.cell? ⟨w.heap.size+1,2,none⟩=some (.int .u8 er)∧w'.cell? ⟨w.heap.size+1,3,none⟩=some (.slice SA srs.length sc)∧w'.cell? ⟨w.heap.size+1,4,none⟩=some (.int .u16 hh)∧w'.cell? ⟨w.heap.size+1,5,none⟩=some (.slice DA dl.length dc)∧w'.cell? ⟨w.heap.size+1,6,none⟩=some (.slice GA gl.length gc)∧w'.cell? ⟨w.heap.size+1,7,none⟩=some (.slice KA kl.length kc)∧Hid (Below w4n.heap.size w4n w'))) (by kernel_rfl) ?_ (fun hHeld0=>?_)
   ·exact ⟨q0,q1,q2,q3,q4,q5,t0,t1,t2,t3,t4,t5,t6,t7,qd (Below.refl w4n.heap.size w4n).drew⟩
   clear q0 q1 q2 q3 q4 q5 t0 t1 t2 t3 t4 t5 t6 t7
   generalize w4n.drew=vh0 at hHeld0 ⊢
   refine tkH (i:=0) (s:=hHeld0) (h:=?_)
   try simp only [Act.put,pA,pB,pC]
   refine tkH (i:=1) (s:=hHeld0) (h:=?_)
   try simp only [Act.put,pA,pB,pC]
   refine tkH (i:=5) (s:=hHeld0) (h:=?_)
   try simp only [Act.put,pA,pB,pC]
   refine wpAnyH_ready (rs:=[2]) (by kernel_rfl) (by simp) ?_
   refine crH (k:=fun K hK=>?_) (r:=?_)
   ·go_simp
    refine (HSm.out _ (HB4.out.trans ((hHeld0.2.2.2.2.2.2.2.2.2.2.2.2.2.2.out).mono HB4.out.size))).mono ?_
    rintro e vh1 ⟨qnm,qact,qrs,qRA,qRc,qhd,qpt,qPA,qPc,qpo,qQA,qQc,rfl,hR4,hOk,hbb⟩
    refine hK.out _ _ ?_ (fun hHeld1=>?_)
    ·exact ⟨cell_below hHeld0.1 hbb,cell_below hHeld0.2.1 hbb,cell_below hHeld0.2.2.1 hbb,cell_below hHeld0.2.2.2.1 hbb,cell_below hHeld0.2.2.2.2.1 hbb,cell_below hHeld0.2.2.2.2.2.1 hbb,cell_below hHeld0.2.2.2.2.2.2.1 hbb,cell_below hHeld0.2.2.2.2.2.2.2.1 hbb,cell_below hHeld0.2.2.2.2.2.2.2.2.1 hbb,cell_below hHeld0.2.2.2.2.2.2.2.2.2.1 hbb,cell_below hHeld0.2.2.2.2.2.2.2.2.2.2.1 hbb,cell_below hHeld0.2.2.2.2.2.2.2.2.2.2.2.1 hbb,cell_below hHeld0.2.2.2.2.2.2.2.2.2.2.2.2.1 hbb,cell_below hHeld0.2.2.2.2.2.2.2.2.2.2.2.2.2.1 hbb,hHeld0.2.2.2.2.2.2.2.2.2.2.2.2.2.2.out.trans (hbb.mono hHeld0.2.2.2.2.2.2.2.2.2.2.2.2.2.2.out.size)⟩
    clear hK K
    have hh9:=hHeld0.2.2.2.2.2.2.2.2.2.2.2.2.2.2.out
    have HSx:=qd (polX_small hR4 hOk (HTt.out.kept (hh9.trans (hbb.mono hh9.size))))
    clear hR4 hOk
    clear hbb hHeld0
    try simp only [Act.put,pA,pB,pC]
    refine wpAnyH_ready (rs:=[3]) (by kernel_rfl) (by simp) ?_
    refine crH (k:=fun K hK=>?_) (r:=?_)
    ·go_simp
     refine hK.out _ _ ?_ (fun hHeld2=>?_)
     ·exact ⟨cell_below hHeld1.1 (oneb _ _),cell_below hHeld1.2.1 (oneb _ _),cell_below hHeld1.2.2.1 (oneb _ _),cell_below hHeld1.2.2.2.1 (oneb _ _),cell_below hHeld1.2.2.2.2.1 (oneb _ _),cell_below hHeld1.2.2.2.2.2.1 (oneb _ _),cell_below hHeld1.2.2.2.2.2.2.1 (oneb _ _),cell_below hHeld1.2.2.2.2.2.2.2.1 (oneb _ _),cell_below hHeld1.2.2.2.2.2.2.2.2.1 (oneb _ _),cell_below hHeld1.2.2.2.2.2.2.2.2.2.1 (oneb _ _),cell_below hHeld1.2.2.2.2.2.2.2.2.2.2.1 (oneb _ _),cell_below hHeld1.2.2.2.2.2.2.2.2.2.2.2.1 (oneb _ _),cell_below hHeld1.2.2.2.2.2.2.2.2.2.2.2.2.1 (oneb _ _),cell_below hHeld1.2.2.2.2.2.2.2.2.2.2.2.2.2.1 (oneb _ _),hHeld1.2.2.2.2.2.2.2.2.2.2.2.2.2.2.out.trans ((oneb _ _).mono hHeld1.2.2.2.2.2.2.2.2.2.2.2.2.2.2.out.size)⟩
     clear hK K
     have hbb:=oneb vh1 (.cells #[.string ⟨nm.toArray⟩,.int .u32 dflt,.slice RA rules.length Rc,.int .u16 hd,.slice PA paths.length Pc,.slice QA ports.length Qc,.string ⟨qnm.toArray⟩,.int .u32 qact,.slice qRA qrs.length qRc,.int .u16 qhd,.slice qPA qpt.length qPc,.slice qQA qpo.length qQc] 30)
     have hrd:=rd_new vh1 #[.string ⟨nm.toArray⟩,.int .u32 dflt,.slice RA rules.length Rc,.int .u16 hd,.slice PA paths.length Pc,.slice QA ports.length Qc,.string ⟨qnm.toArray⟩,.int .u32 qact,.slice qRA qrs.length qRc,.int .u16 qhd,.slice qPA qpt.length qPc,.slice qQA qpo.length qQc] (T:=30) (l:=[(⟨nm,dflt,rules,RA,Rc,hd,paths,PA,Pc,ports,QA,Qc⟩:PolV),⟨qnm,qact,qrs,qRA,qRc,qhd,qpt,qPA,qPc,qpo,qQA,qQc⟩].flatMap PolV.cells) (n:=2) (z:=6) rfl rfl
     generalize World.alloc vh1 _=vh2 at hbb hrd hHeld2 ⊢
     have HSx:=qd (HSx.out.below hbb)
     have HG31:=qd (show vh1.heap.size≠tb by have:=HTt.out.lt;have:=(hHeld1.2.2.2.2.2.2.2.2.2.2.2.2.2.2.out).size;omega)
     generalize vh1.heap.size=g31 at hrd HG31 ⊢
     have HRd:=qd hrd
     clear hbb hrd hHeld1
     try simp only [Act.put,pA,pB,pC]
     refine tkH (i:=4) (s:=hHeld2) (h:=?_)
     try simp only [Act.put,pA,pB,pC]
     refine wpAnyH_done (by kernel_rfl) ?_ _
     rename World=>w5
     have HB5:=qd (HB4.out.trans ((hHeld2.2.2.2.2.2.2.2.2.2.2.2.2.2.2.out).mono HB4.out.size))
     have HB45:=qd (hHeld2.2.2.2.2.2.2.2.2.2.2.2.2.2.2.out)
     have HPx:=qd (polX_in (tb:=tb) hp HQp.out HTb.out HB5.out)
     have HAll:=qd (two_all (Q:=fun x=>PolX w5 x tb) HPx.out HSx.out)
     clear hHeld2 HSx HPx HSm HFew HB4 HQp
     go_wp2_with fail
     have h31:g31<w5.heap.size:=by obtain ⟨b,o,e,hb,_⟩:=HRd.out.pos (by omega);cases e;exact hb
     have HRd:=qd HRd.out
     have HT5:=qd (HTt.out.kept HB45.out)
     clear HK1 HK2 g20 d20 hn63 HTt HB45
     go_loopw [43] (fun iv wr=>∃k:Nat,iv=.int .i64 k∧k≤2∧Hid (w5.grownBy wr (some tb))∧Hid (TS wr tb (256*k))) (fun iv _=>2-(intOf iv).toNat)
     case atStart=>exact ⟨0,rfl,Nat.zero_le _,qd (grown_refl _ _),HT5⟩
     case round=>
      clear HT5
      obtain ⟨k,rfl,hk,HGr,HTr⟩:=hrel
      have hs5:=HGr.out.size
      by_cases hk2:k<2
      ·obtain ⟨xx,hxx⟩:∃xx,[(⟨nm,dflt,rules,RA,Rc,hd,paths,PA,Pc,ports,QA,Qc⟩:PolV),⟨qnm,qact,qrs,qRA,qRc,qhd,qpt,qPA,qPc,qpo,qQA,qQc⟩][k]?=some xx:=⟨_,List.getElem?_eq_getElem hk2⟩
       have hpx:=(HAll.out xx (List.mem_of_getElem? hxx)).grown HGr.out
       obtain ⟨c0,c1,c2,c3,c4,c5⟩:=six_pol (HRd.out.grownO (Or.inr (fun a e=>by cases e;exact HG31.out)) HGr.out) hxx
       clear hxx
       obtain ⟨nR,hnR⟩:∃n,xx.rules.length=n:=⟨_,rfl⟩
       obtain ⟨nP,hnP⟩:∃n,xx.paths.length=n:=⟨_,rfl⟩
       obtain ⟨nQ,hnQ⟩:∃n,xx.ports.length=n:=⟨_,rfl⟩
       have hpg:=hpx.g hnR hnP hnQ
       rw [hnR] at c2
       rw [hnP] at c4
       rw [hnQ] at c5
       have hlR:nR≤80:=by rw [←hnR];exact hpx.q.r
       have hk0:(0:Int)≤(k:Int):=by omega
       clear hnR hnP hnQ hpx
       go_upto_region 9 with fail
       have hbx:=oneb wr (.cells #[.string ⟨xx.name.toArray⟩,.int .u32 xx.dflt,.slice xx.RA nR xx.Rc,.int .u16 xx.handled,.slice xx.PA nP xx.Pc,.slice xx.QA nQ xx.Qc] 30)
       have hkx:=Bk.new wr 30 #[.string ⟨xx.name.toArray⟩,.int .u32 xx.dflt,.slice xx.RA nR xx.Rc,.int .u16 xx.handled,.slice xx.PA nP xx.Pc,.slice xx.QA nQ xx.Qc] (l:=[.string ⟨xx.name.toArray⟩,.int .u32 xx.dflt,.slice xx.RA nR xx.Rc,.int .u16 xx.handled,.slice xx.PA nP xx.Pc,.slice xx.QA nQ xx.Qc]) rfl
       have HTl:=qd (show tb<wr.heap.size from HTr.out.lt)
       clear c0 c1 c2 c3 c4 c5
       generalize World.alloc wr _=w6 at hbx hkx ⊢
       obtain ⟨g10,hg10⟩:∃g,g=wr.heap.size:=⟨_,rfl⟩
       have HGt:=qd (show g10≠tb by have:=HTl.out;omega)
       have HTl:=qd (show tb<w6.heap.size by have:=HTl.out;have:=hbx.size;omega)
       have HG6:=qd (show g10<w6.heap.size by have:=hkx.lt;omega)
       rw [←hg10] at hkx ⊢
       have HGr:=qd (grow_below HGr.out hbx)
       have HPG:=qd (hpg.below hbx)
       have HT:=qd (HTr.out.kept hbx)
       have HBw:=qd (only_below HB5.out HGr.out HB5.out.size HTb.out)
       have HK10:=qd hkx
       have HOf:=qd (fun (f:Nat) (hf:w6.heap.size≤f)=>off_old HPG.out.rd hf)
       have HW5:=qd (show w5.heap.size≤w6.heap.size from HGr.out.size)
       clear hbx hkx hpg HTr hg10
       have q0:=HK10.out.cell 0 rfl
       have q1:=HK10.out.cell 1 rfl
       have q2:=HK10.out.cell 2 rfl
       have q3:=HK10.out.cell 3 rfl
       have q4:=HK10.out.cell 4 rfl
       have q5:=HK10.out.cell 5 rfl
       have ql:=HK10.out.lt
       go_wp2_with fail
       refine (filter_any xx nR nP nQ tb _ _ HPG.out HT.out (by omega) (HEn.out.below HBw.out)).mono ?_
       clear q0 q1 q2 q3 q4 q5 ql
       rintro e w7 ⟨hg,hT,hcs⟩
       have HGr:=qd (grown_trans HGr.out hg (fun j hj=>.inl hj))
       have HPG:=qd (HPG.out.grown hg)
       have HK10:=qd (HK10.out.grown hg (fun e=>by have:=Option.some.inj e;have:=HGt.out;omega))
       have HBw:=qd (only_below HBw.out hg HBw.out.size HTb.out)
       have HT:=qd hT
       rcases hcs with ⟨hz,rfl⟩|⟨hz,l',hS,⟨hx0,rfl⟩|⟨hx0,BB,fq,fb,fo,fc,hq1,hb1,hne,hBB,rfl,hF⟩⟩
       ·skip
        obtain ⟨E,hE⟩:∃E,E=polE (polM xx):=⟨_,rfl⟩
        rw [←hE] at hz ⊢
        have HZ:=qd hz
        have HEq:=qd hE
        have gz:((E:Int) != 0)=true:=by rw [bne_iff_ne];omega
        have ez:((E:Int) != (E:Int))=false:=by simp
        clear hz hE hT hg
        have q0:=HK10.out.cell 0 rfl
        have q1:=HK10.out.cell 1 rfl
        have q2:=HK10.out.cell 2 rfl
        have q3:=HK10.out.cell 3 rfl
        have q4:=HK10.out.cell 4 rfl
        have q5:=HK10.out.cell 5 rfl
        have ql:=HK10.out.lt
        go_wp2_with fail
        refine (insns_any xx nR nP nQ tb _ _ HPG.out HT.out (by omega) (HEn.out.below HBw.out)).mono ?_
        clear q0 q1 q2 q3 q4 q5 ql
        rintro e w8 ⟨hg,hT,hcs⟩
        have HGr:=qd (grown_trans HGr.out hg (fun j hj=>.inl hj))
        have HPG:=qd (HPG.out.grown hg)
        have HK10:=qd (HK10.out.grown hg (fun e=>by have:=Option.some.inj e;have:=HGt.out;omega))
        have HBw:=qd (only_below HBw.out hg HBw.out.size HTb.out)
        have HT:=qd hT
        clear hg hT
        rcases hcs with ⟨_,rfl⟩|⟨hz9,_⟩
        rotate_left 1
        ·exact absurd (HEq.out.trans hz9) HZ.out
        rw [←HEq.out]
        have q0:=HK10.out.cell 0 rfl
        have q1:=HK10.out.cell 1 rfl
        have q2:=HK10.out.cell 2 rfl
        have q3:=HK10.out.cell 3 rfl
        have q4:=HK10.out.cell 4 rfl
        have q5:=HK10.out.cell 5 rfl
        have ql:=HK10.out.lt
        go_wp2_with fail
        refine (plain_any xx nR nP nQ tb _ _ HPG.out HT.out (by omega) (HEn.out.below HBw.out)).mono ?_
        clear q0 q1 q2 q3 q4 q5 ql
        rintro e w9 ⟨hg,hT,hcs⟩
        have HGr:=qd (grown_trans HGr.out hg (fun j hj=>.inl hj))
        have HPG:=qd (HPG.out.grown hg)
        have HK10:=qd (HK10.out.grown hg (fun e=>by have:=Option.some.inj e;have:=HGt.out;omega))
        have HBw:=qd (only_below HBw.out hg HBw.out.size HTb.out)
        have HT:=qd hT
        clear hg hT
        rcases hcs with ⟨_,rfl⟩|⟨hz9,_⟩
        rotate_left 1
        ·exact absurd (HEq.out.trans hz9) HZ.out
        rw [←HEq.out]
        have q0:=HK10.out.cell 0 rfl
        have q1:=HK10.out.cell 1 rfl
        have q2:=HK10.out.cell 2 rfl
        have q3:=HK10.out.cell 3 rfl
        have q4:=HK10.out.cell 4 rfl
        have q5:=HK10.out.cell 5 rfl
        have ql:=HK10.out.lt
        go_wp2_with fail
        refine (polCheckG xx nR nP nQ tb _ _ HPG.out HT.out (by omega) (HEn.out.below HBw.out)).mono ?_
        clear q0 q1 q2 q3 q4 q5 ql
        rintro e w10 ⟨rfl,hT,hg⟩
        have HGr:=qd (grown_trans HGr.out hg (fun j hj=>.inl hj))
        have HPG:=qd (HPG.out.grown hg)
        have HK10:=qd (HK10.out.grown hg (fun e=>by have:=Option.some.inj e;have:=HGt.out;omega))
        have HBw:=qd (only_below HBw.out hg HBw.out.size HTb.out)
        have HT:=qd hT
        clear hg hT
        rw [←HEq.out]
        clear HEq HZ
        go_wp2_with fail
        go_roundw
        case rel=>exact ⟨k+1,by go_num,by omega,HGr,qd (HT.out.mono (by omega))⟩
        case measure=>simp [intOf];omega
       ·skip
        have hw:=g_small HPG.out hz hS
        obtain ⟨x5,p5⟩:=least_bad hw hx0
        rw [x5]
        have HZ:=qd hz
        have HS:=qd hS
        have HX5:=qd x5
        have HP5:=qd p5
        clear hz hS hx0 x5 p5 hw hT hg
        have q0:=HK10.out.cell 0 rfl
        have q1:=HK10.out.cell 1 rfl
        have q2:=HK10.out.cell 2 rfl
        have q3:=HK10.out.cell 3 rfl
        have q4:=HK10.out.cell 4 rfl
        have q5:=HK10.out.cell 5 rfl
        have ql:=HK10.out.lt
        go_wp2_with fail
        refine (insns_any xx nR nP nQ tb _ _ HPG.out HT.out (by omega) (HEn.out.below HBw.out)).mono ?_
        clear q0 q1 q2 q3 q4 q5 ql
        rintro e w8 ⟨hg,hT,hcs⟩
        have HGr:=qd (grown_trans HGr.out hg (fun j hj=>.inl hj))
        have HPG:=qd (HPG.out.grown hg)
        have HK10:=qd (HK10.out.grown hg (fun e=>by have:=Option.some.inj e;have:=HGt.out;omega))
        have HBw:=qd (only_below HBw.out hg HBw.out.size HTb.out)
        have HT:=qd hT
        clear hg hT
        rcases hcs with ⟨hz9,_⟩|⟨_,l2,hS2,hout⟩
        ·exact absurd HZ.out hz9
        obtain rfl:=sorted_uniq hS2 HS.out
        rcases hout with ⟨h0,_⟩|⟨_,rfl⟩
        ·rw [HX5.out] at h0;cases h0
        rw [HX5.out]
        clear hS2
        have q0:=HK10.out.cell 0 rfl
        have q1:=HK10.out.cell 1 rfl
        have q2:=HK10.out.cell 2 rfl
        have q3:=HK10.out.cell 3 rfl
        have q4:=HK10.out.cell 4 rfl
        have q5:=HK10.out.cell 5 rfl
        have ql:=HK10.out.lt
        go_wp2_with fail
        refine (plain_any xx nR nP nQ tb _ _ HPG.out HT.out (by omega) (HEn.out.below HBw.out)).mono ?_
        clear q0 q1 q2 q3 q4 q5 ql
        rintro e w9 ⟨hg,hT,hcs⟩
        have HGr:=qd (grown_trans HGr.out hg (fun j hj=>.inl hj))
        have HPG:=qd (HPG.out.grown hg)
        have HK10:=qd (HK10.out.grown hg (fun e=>by have:=Option.some.inj e;have:=HGt.out;omega))
        have HBw:=qd (only_below HBw.out hg HBw.out.size HTb.out)
        have HT:=qd hT
        clear hg hT
        rcases hcs with ⟨hz9,_⟩|⟨_,l3,hS2,hout⟩
        ·exact absurd HZ.out hz9
        obtain rfl:=sorted_uniq hS2 HS.out
        rcases hout with ⟨h0,_⟩|⟨_,rfl⟩
        ·have h0:(makeF (planL xx.dflt (ofF l3))).1=0:=h0
         rw [HP5.out] at h0;cases h0
        rw [show (plainF (planL xx.dflt (ofF l3))).1=205 from HP5.out]
        clear hS2
        have q0:=HK10.out.cell 0 rfl
        have q1:=HK10.out.cell 1 rfl
        have q2:=HK10.out.cell 2 rfl
        have q3:=HK10.out.cell 3 rfl
        have q4:=HK10.out.cell 4 rfl
        have q5:=HK10.out.cell 5 rfl
        have ql:=HK10.out.lt
        go_wp2_with fail
        refine (polCheckG xx nR nP nQ tb _ _ HPG.out HT.out (by omega) (HEn.out.below HBw.out)).mono ?_
        clear q0 q1 q2 q3 q4 q5 ql
        rintro e w10 ⟨rfl,hT,hg⟩
        have HGr:=qd (grown_trans HGr.out hg (fun j hj=>.inl hj))
        have HPG:=qd (HPG.out.grown hg)
        have HK10:=qd (HK10.out.grown hg (fun e=>by have:=Option.some.inj e;have:=HGt.out;omega))
        have HBw:=qd (only_below HBw.out hg HBw.out.size HTb.out)
        have HT:=qd hT
        clear hg hT
        rw [HZ.out]
        clear HZ HS HX5 HP5
        go_wp2_with fail
        go_roundw
        case rel=>exact ⟨k+1,by go_num,by omega,HGr,qd (HT.out.mono (by omega))⟩
        case measure=>simp [intOf];omega
       ·skip
        have hw:=g_small HPG.out hz hS
        obtain ⟨hlr,hpl⟩:=leastR_of hw hx0
        have HZ:=qd hz
        have HS:=qd hS
        have HX0:=qd hx0
        have HPl:=qd hpl
        have HGd:=qd hlr.good
        have HIk:=qd (hlr.oks hw.oks)
        have HIl:=hlr.len
        have HSay:=qd (fun (x:RcM) (hx:x.ok) (bs:List Nat) (hb:Sees (recW bs) x)=>(hlr.says (recW bs)).trans (hw.says x hx bs hb))
        have HFt:=qd (show fq≠tb∧fb≠tb by have:=HTl.out;omega)
        have HFo:=qd (HOf.out fq hq1)
        have HFk:=qd (show g10≠fq by have:=HG6.out;omega)
        have HF5:=qd (show w5.heap.size≤fq by have:=HW5.out;omega)
        obtain ⟨ins,hins⟩:∃i,i=(leastF (planL xx.dflt (ofF l'))).2:=⟨_,rfl⟩
        rw [←hins] at HGd HIk HIl HSay hF HPl
        have HIn:=qd hins
        obtain ⟨KK,hKK⟩:∃n,n=ins.length:=⟨_,rfl⟩
        rw [←hKK] at HIl HPl
        have HKK:=qd hKK
        have HF:=qd hF
        clear hz hS hx0 hlr hpl hw hT hg hins hKK hF hne hq1 hb1 hBB
        have q0:=HK10.out.cell 0 rfl
        have q1:=HK10.out.cell 1 rfl
        have q2:=HK10.out.cell 2 rfl
        have q3:=HK10.out.cell 3 rfl
        have q4:=HK10.out.cell 4 rfl
        have q5:=HK10.out.cell 5 rfl
        have ql:=HK10.out.lt
        go_wp2_with fail
        refine (insns_any xx nR nP nQ tb _ _ HPG.out HT.out (by omega) (HEn.out.below HBw.out)).mono ?_
        clear q0 q1 q2 q3 q4 q5 ql
        rintro e w8 ⟨hg,hT,hcs⟩
        have HGr:=qd (grown_trans HGr.out hg (fun j hj=>.inl hj))
        have HPG:=qd (HPG.out.grown hg)
        have HK10:=qd (HK10.out.grown hg (fun e=>by have:=Option.some.inj e;have:=HGt.out;omega))
        have HBw:=qd (only_below HBw.out hg HBw.out.size HTb.out)
        have HT:=qd hT
        have HF:=qd (HF.out.other hg HFt.out.1 HFt.out.2)
        clear hg hT
        rcases hcs with ⟨hz9,_⟩|⟨_,l2,hS2,hout⟩
        ·exact absurd HZ.out hz9
        obtain rfl:=sorted_uniq hS2 HS.out
        rcases hout with ⟨_,A5,c5,rfl,hr5⟩|⟨h0,_⟩
        rotate_left 1
        ·exact absurd HX0.out h0
        rw [←HIn.out,←HKK.out] at hr5 ⊢
        have HO5:=qd (hr5.off (ts_ty HT.out) (by decide))
        have HR5:=qd hr5.rd
        clear hS2 hr5
        have q0:=HK10.out.cell 0 rfl
        have q1:=HK10.out.cell 1 rfl
        have q2:=HK10.out.cell 2 rfl
        have q3:=HK10.out.cell 3 rfl
        have q4:=HK10.out.cell 4 rfl
        have q5:=HK10.out.cell 5 rfl
        have ql:=HK10.out.lt
        go_wp2_with fail
        refine (plain_any xx nR nP nQ tb _ _ HPG.out HT.out (by omega) (HEn.out.below HBw.out)).mono ?_
        clear q0 q1 q2 q3 q4 q5 ql
        rintro e w9 ⟨hg,hT,hcs⟩
        have HGr:=qd (grown_trans HGr.out hg (fun j hj=>.inl hj))
        have HPG:=qd (HPG.out.grown hg)
        have HK10:=qd (HK10.out.grown hg (fun e=>by have:=Option.some.inj e;have:=HGt.out;omega))
        have HBw:=qd (only_below HBw.out hg HBw.out.size HTb.out)
        have HT:=qd hT
        have HF:=qd (HF.out.other hg HFt.out.1 HFt.out.2)
        have HR5:=qd (HR5.out.grownO (show Off KK A5 tb from HO5.out) hg)
        clear hg hT
        rcases hcs with ⟨hz9,_⟩|⟨_,l3,hS2,hout⟩
        ·exact absurd HZ.out hz9
        obtain rfl:=sorted_uniq hS2 HS.out
        obtain ⟨A6,k6,c6,h6,rfl,hh6⟩:∃(A6:Option Addr) (k6 c6 h6:Nat),e=.returned (.tuple #[.slice A6 k6 c6,.int .i64 h6])∧(h6=0∧KK≤k6∨h6=205):=by
         rcases hout with ⟨h0,A6,c6,rfl,_⟩|⟨h0,rfl⟩
         ·refine ⟨A6,_,c6,0,rfl,Or.inl ⟨rfl,?_⟩⟩
          rcases HPl.out with ⟨_,h2⟩|h2
          ·exact h2
          ·have h0:(makeF (planL xx.dflt (ofF l3))).1=0:=h0
           rw [h2] at h0;cases h0
         ·have h0:(makeF (planL xx.dflt (ofF l3))).1≠0:=h0
          rcases HPl.out with ⟨h2,_⟩|h2
          ·exact absurd h2 h0
          ·exact ⟨none,0,0,205,by rw [show (plainF (planL xx.dflt (ofF l3))).1=205 from h2],Or.inr rfl⟩
        have H6:=qd hh6
        clear hS2 hout hh6 HPl
        have q0:=HK10.out.cell 0 rfl
        have q1:=HK10.out.cell 1 rfl
        have q2:=HK10.out.cell 2 rfl
        have q3:=HK10.out.cell 3 rfl
        have q4:=HK10.out.cell 4 rfl
        have q5:=HK10.out.cell 5 rfl
        have ql:=HK10.out.lt
        go_wp2_with fail
        refine (polCheckG xx nR nP nQ tb _ _ HPG.out HT.out (by omega) (HEn.out.below HBw.out)).mono ?_
        clear q0 q1 q2 q3 q4 q5 ql
        rintro e w10 ⟨rfl,hT,hg⟩
        have HGr:=qd (grown_trans HGr.out hg (fun j hj=>.inl hj))
        have HPG:=qd (HPG.out.grown hg)
        have HK10:=qd (HK10.out.grown hg (fun e=>by have:=Option.some.inj e;have:=HGt.out;omega))
        have HBw:=qd (only_below HBw.out hg HBw.out.size HTb.out)
        have HT:=qd hT
        have HF:=qd (HF.out.other hg HFt.out.1 HFt.out.2)
        have HR5:=qd (HR5.out.grownO (show Off KK A5 tb from HO5.out) hg)
        clear hg hT
        rw [HZ.out]
        go_upto_region 19 with fail
        have HLe:=qd (len_any w10 BB fq fb fo fc ins 0 0 HF.out)
        rw [←HKK.out] at HLe
        have eK:((KK:Int) != (KK:Int))=false:=by simp
        go_cut [134] from 107 to 133 (fun v134 wx=>v134=.bool false∧w10=wx)
        case first=>
         rcases H6.out with ⟨rfl,h7⟩|rfl
         ·have g7:¬(k6:Int)<(KK:Int):=by omega
          have d7:decide ((k6:Int)<(KK:Int))=false:=decide_eq_false g7
          clear h7 H6
          go_wp2_with fail
          refine HLe.out.mono ?_
          rintro e w11 ⟨rfl,rfl⟩
          go_wp2_with fail
          go_meet
          case rel=>exact ⟨congrArg Value.bool (decide_eq_false (by omega)),rfl⟩
         ·clear H6
          go_wp2_with fail
          refine HLe.out.mono ?_
          rintro e w11 ⟨rfl,rfl⟩
          go_wp2_with fail
          go_meet
          case rel=>exact ⟨rfl,rfl⟩
        case rest=>
         obtain ⟨rfl,rfl⟩:=hcut
         clear HLe eK H6 HZ HS HX0
         have HCk:=qd (check_any ins KK A5 c5 w10 HKK.out.symm HIk.out HR5.out (by unfold maxLen;omega))
         go_wp2_with fail
         refine HCk.out.mono ?_
         clear HCk
         rintro e w10c ⟨ca,ce,rfl,hck,hb10⟩
         obtain rfl:=hck.good_iff.2 HGd.out
         obtain rfl:=hck.zero
         have HPG:=qd (HPG.out.below hb10)
         have HK10:=qd (HK10.out.kept hb10)
         have HF:=qd (HF.out.below (hb10.mono HF.out.le))
         have HGr:=qd (grow_below HGr.out hb10)
         have HBw:=qd (HBw.out.trans (hb10.mono HBw.out.size))
         have HT:=qd (HT.out.kept hb10)
         clear hck hb10 HR5 HIn
         go_upto_region 22 with fail
         have hxw:=Bk.new w10c 53 #[.int .i64 0,.int .i64 0] (l:=[.int .i64 0,.int .i64 0]) rfl
         have hb11:=oneb w10c (.cells #[.int .i64 0,.int .i64 0] 53)
         have HPG:=qd (HPG.out.below hb11)
         have HK10:=qd (HK10.out.kept hb11)
         have HF:=qd (HF.out.below (hb11.mono HF.out.le))
         have HGr:=qd (grow_below HGr.out hb11)
         have HBw:=qd (HBw.out.trans (hb11.mono HBw.out.size))
         have HT:=qd (HT.out.kept hb11)
         generalize World.alloc w10c _=w11 at hxw HPG HK10 HF HGr HBw HT ⊢
         generalize w10c.heap.size=gw at hxw ⊢
         have y0:=hxw.cell 0 rfl
         have y1:=hxw.cell 1 rfl
         have yl:=hxw.lt
         clear hb11 hxw
         have hQ:∀W:World,(binOp .neq 53 (.agg #[.int .i64 0,.int .i64 0]) (.agg #[.int .i64 0,.int .i64 0])).run Tryz.prog W=.ok (.bool false) W:=fun W=>by kernel_rfl
         go_upto_region 24 with fail
         clear y0 y1 yl hQ
         obtain ⟨es,hes⟩:∃es,es=edgeL (xx.rules.map RuleV.m):=⟨_,rfl⟩
         have HEo:=qd (show ∀x∈es,x.ok by rw [hes];exact edge_ok fun r hr=>by obtain ⟨v,hv,rfl⟩:=List.mem_map.1 hr;exact HPG.out.q.ok v hv)
         have hel:es.length≤8082:=by
          rw [hes]
          have h1:=edge_len 20 (xx.rules.map RuleV.m) fun r hr=>by obtain ⟨v,hv,rfl⟩:=List.mem_map.1 hr;exact HPG.out.q.cs v hv
          have h2:=HPG.out.q.r
          rw [List.length_map] at h1
          unfold edgeL
          simp only [List.length_cons]
          omega
         have HEd:=qd (fun W (h:Below w11.heap.size w11 W)=>edges_any ⟨xx.name.toArray⟩ xx.dflt xx.rules xx.RA nR xx.Rc xx.handled xx.PA nP xx.Pc xx.QA nQ xx.Qc W HPG.out.eR (by have:=HPG.out.q.r;have:=HPG.out.eR;omega) (rrd_of (HPG.out.below h).rd HPG.out.q) HPG.out.q.cs)
         unfold RecOut at HEd
         rw [←hes] at HEd
         obtain ⟨m5,hm5⟩:∃m,m=es.length:=⟨_,rfl⟩
         rw [←hm5] at HEd hel
         have HM5:=qd hm5
         have HmkS:Hid (∀W,Below w11.heap.size w11 W→(fun W=>W.cell? ⟨g10,0,none⟩=some (.string ⟨xx.name.toArray⟩)∧W.cell? ⟨g10,1,none⟩=some (.int .u32 xx.dflt)∧W.cell? ⟨g10,2,none⟩=some (.slice xx.RA nR xx.Rc)∧W.cell? ⟨g10,3,none⟩=some (.int .u16 xx.handled)∧W.cell? ⟨g10,4,none⟩=some (.slice xx.PA nP xx.Pc)∧W.cell? ⟨g10,5,none⟩=some (.slice xx.QA nQ xx.Qc)∧g10<W.heap.size) W):=qd (fun W h=>⟨(HK10.out.kept h).cell 0 rfl,(HK10.out.kept h).cell 1 rfl,(HK10.out.kept h).cell 2 rfl,(HK10.out.kept h).cell 3 rfl,(HK10.out.kept h).cell 4 rfl,(HK10.out.kept h).cell 5 rfl,(HK10.out.kept h).lt⟩)
         clear hes hm5
         go_cut [20] from 140 to 146 (fun v20 wx=>∃(A7:Option Addr) (c7:Nat) (ts:List RcM) (nT:Nat),v20=.slice A7 nT c7∧nT≤9000∧nT=ts.length∧Hid (∀x∈ts,x.ok)∧Hid (TRd wx 60 9 nT A7 (ts.flatMap RcM.cells))∧Hid (Below w11.heap.size w11 wx))
         case first=>
          refine wp_region_held_drew (S:=(fun W=>W.cell? ⟨g10,0,none⟩=some (.string ⟨xx.name.toArray⟩)∧W.cell? ⟨g10,1,none⟩=some (.int .u32 xx.dflt)∧W.cell? ⟨g10,2,none⟩=some (.slice xx.RA nR xx.Rc)∧W.cell? ⟨g10,3,none⟩=some (.int .u16 xx.handled)∧W.cell? ⟨g10,4,none⟩=some (.slice xx.PA nP xx.Pc)∧W.cell? ⟨g10,5,none⟩=some (.slice xx.QA nQ xx.Qc)∧g10<W.heap.size)) (by kernel_rfl) ?_ (fun hHeld0=>?_)
          ·exact HmkS.out _ (Below.refl _ _).drew
          have HBv:=qd (show Below w11.heap.size w11 w11.drew from (Below.refl _ _).drew)
          generalize w11.drew=vh0 at hHeld0 HBv ⊢
          refine tkH (i:=0) (s:=hHeld0) (h:=?_)
          try simp only [Act.put,pA,pB,pC]
          refine tkH (i:=1) (s:=hHeld0) (h:=?_)
          try simp only [Act.put,pA,pB,pC]
          refine tkH (i:=2) (s:=hHeld0) (h:=?_)
          try simp only [Act.put,pA,pB,pC]
          refine tkH (i:=4) (s:=hHeld0) (h:=?_)
          try simp only [Act.put,pA,pB,pC]
          refine wpAnyH_ready (rs:=[3]) (by kernel_rfl) (by simp) ?_
          refine crH (k:=fun K hK=>?_) (r:=?_)
          ·skip
           go_simp
           refine (HRec.out ⟨xx.name.toArray⟩ xx.dflt xx.rules xx.RA nR xx.Rc xx.handled xx.PA nP xx.Pc xx.QA nQ xx.Qc _ (HBw.out.trans (HBv.out.mono HBw.out.size)) HPG.out.eR (by omega) (rrd_of (HPG.out.below HBv.out).rd HPG.out.q)).mono ?_
           rintro e vh1 ⟨⟨rs,cA,cc,rfl,hl50,hrok,hrow⟩,hbb⟩
           have HBn:=qd (HBv.out.trans (hbb.mono HBv.out.size))
           refine hK.out _ _ (HmkS.out _ HBn.out) (fun hHeld1=>?_)
           clear hK K
           have HO:=qd (own_lowU hrow HBv.out.size)
           have HOk2:=qd hrok
           obtain ⟨nr,hnr⟩:∃n,n=rs.length:=⟨_,rfl⟩
           rw [←hnr] at HO hl50 ⊢
           have HNr:=qd hnr
           try have HEr:=qd (HEr.out.below hbb)
           have HBv:=HBn
           clear hrow hrok hnr hbb HBn hHeld0
           try simp only [Act.put,pA,pB,pC]
           refine wpAnyH_ready (rs:=[5]) (by kernel_rfl) (by simp) ?_
           refine crH (k:=fun K hK=>?_) (r:=?_)
           ·skip
            go_simp
            refine (HEd.out _ HBv.out).mono ?_
            rintro e vh2 ⟨A5e,c5e,rfl,hrow,hbb⟩
            have HBn:=qd (HBv.out.trans (hbb.mono HBv.out.size))
            refine hK.out _ _ (HmkS.out _ HBn.out) (fun hHeld2=>?_)
            clear hK K
            have HEr:=qd (own_rd hrow)
            try have HO:=qd (own_keepN HO.out hbb)
            have HBv:=HBn
            clear hrow hbb HBn hHeld1
            try simp only [Act.put,pA,pB,pC]
            refine wpAnyH_ready (rs:=[6]) (by kernel_rfl) (by simp) ?_
            refine crH (k:=fun K hK=>?_) (r:=?_)
            ·skip
             obtain ⟨v6,vh3,hr,ho,hg,hat⟩:=run_listC 36 36 60 _ 9 64 infoRec Tryz.underlying36 rfl (by decide) (by decide) w11.heap.size _ nr (rs.flatMap RcM.cells) HO.out A5e m5 c5e (es.flatMap RcM.cells) HEr.out (recs_one es) (by omega) HBv.out.size
             obtain ⟨A7,c7,hve,_⟩:=own_typed ho
             subst hve
             have HBn:=qd (HBv.out.grown hg HBv.out.size (fun g e=>(Ju.own_ge HO.out g e).1))
             refine Ju.op_append (.tmp 143) (.tmp 145) 36 rfl _ _ _ vh3 rfl rfl hr ?_
             refine hK.out _ _ (HmkS.out _ HBn.out) (fun hHeld3=>?_)
             clear hK K
             have HO:=qd ho
             have HBv:=HBn
             clear ho hg hat hr HEr HBn hHeld2
             try simp only [Act.put,pA,pB,pC]
             refine tkH (i:=7) (s:=hHeld3) (h:=?_)
             try simp only [Act.put,pA,pB,pC]
             refine wpAnyH_done (by kernel_rfl) ?_ _
             rename World=>w12
             clear hHeld3
             go_wp2_with fail
             go_meet
             case rel=>exact ⟨A7,c7,rs++es,nr+m5,rfl,by omega,by rw [List.length_append,←HNr.out,←HM5.out],qd (fun x hx=>(List.mem_append.1 hx).elim (HOk2.out x) (HEo.out x)),qd (own_trdC (by rw [List.flatMap_append];exact HO.out)),HBv⟩
            exact AllReadyH.nil
           exact AllReadyH.nil
          exact AllReadyH.nil
         case rest=>
          obtain ⟨A7,c7,ts,nT,rfl,hnT,hnL,HOkT,HRt,HB11⟩:=hcut
          rename World=>w12
          have HNT:=qd hnL.symm
          have HPG:=qd (HPG.out.below HB11.out)
          have HK10:=qd (HK10.out.kept HB11.out)
          have HF:=qd (HF.out.below (HB11.out.mono HF.out.le))
          have HGr:=qd (grow_below HGr.out HB11.out)
          have HBw:=qd (HBw.out.trans (HB11.out.mono HBw.out.size))
          have HT:=qd (HT.out.kept HB11.out)
          clear HB11 HEd HEo hel HM5 HmkS hnL
          have HFy:=qd HF.out.bk.tyb
          go_wp2_with fail
          go_loopw [149] (fun iv wz=>∃j st:Nat,iv=.int .i64 j∧j≤nT∧st≤4096*j∧Hid (Fil wz BB fq fb fo fc ins j st)∧Hid (w12.grownBy wz (some fq))∧Hid (TRd wz 60 9 nT A7 (ts.flatMap RcM.cells))) (fun iv _=>nT-(intOf iv).toNat)
          case atStart=>exact ⟨0,0,rfl,Nat.zero_le _,by omega,HF,qd (grown_refl _ _),HRt⟩
          case round=>
           clear HF HRt
           rename World=>wz
           obtain ⟨j,st,rfl,hj,hst,HF,HGz,HRt⟩:=hrel
           have HPGz:=qd (pg_fil HPG.out HGz.out HFo.out)
           have HKz:=qd (HK10.out.grown HGz.out (fun e=>HFk.out (Option.some.inj e)))
           by_cases hin:j<nT
           ·obtain ⟨x,hx⟩:∃x,ts[j]?=some x:=⟨_,List.getElem?_eq_getElem (by have:=HNT.out;omega)⟩
            have HXo:=qd (HOkT.out x (List.mem_of_getElem? hx))
            obtain ⟨b3,o3,hA3,hb3,hcell⟩:=HRt.out.rd.one (f:=RcM.cells) (fun _=>rfl) (by omega) (by omega)
            subst hA3
            obtain ⟨c0,c1,c2,c3,c4,c5,c6,c7,c8⟩:=nine_recC hcell hx
            clear hcell hx
            go_upto_region 28 with fail
            have hbx:=oneb wz (.cells #[.int .u32 x.num,.int .u32 x.arch,.int .u64 x.at_,.int .u64 x.a0,.int .u64 x.a1,.int .u64 x.a2,.int .u64 x.a3,.int .u64 x.a4,.int .u64 x.a5] 60)
            have hkx:=Bk.new wz 60 #[.int .u32 x.num,.int .u32 x.arch,.int .u64 x.at_,.int .u64 x.a0,.int .u64 x.a1,.int .u64 x.a2,.int .u64 x.a3,.int .u64 x.a4,.int .u64 x.a5] (l:=x.cells) rfl
            clear c0 c1 c2 c3 c4 c5 c6 c7 c8
            generalize World.alloc wz _=w13 at hbx hkx ⊢
            obtain ⟨gx,hgx⟩:∃y,y=wz.heap.size:=⟨_,rfl⟩
            have HGx:=qd (show gx≠fq by have:=HF.out.lp;have:=HF.out.le;omega)
            rw [←hgx] at hkx ⊢
            have HF:=qd (HF.out.below (hbx.mono HF.out.le))
            have HGz:=qd (grow_below HGz.out hbx)
            have HPGz:=qd (HPGz.out.below hbx)
            have HKz:=qd (HKz.out.kept hbx)
            have HRt:=qd (HRt.out.below hbx)
            have HKx:=qd hkx
            obtain ⟨bs,hbs,hrl,hse⟩:=rec_bs x HXo.out
            have hnl:=run_len (recW bs) ins
            rw [←HKK.out] at hnl
            have R1:=qd (run_any bs ins BB fq fb fo fc j st w13 HF.out HGd.out HIk.out hbs (smK (by omega)) (smK (by omega)))
            unfold RunTo at R1
            have hsy:=HSay.out x HXo.out bs hse
            rw [hsy,hrl] at R1
            obtain ⟨sv,hsv⟩:∃s,s=saysR xx.dflt (xx.rules.map RuleV.m) x:=⟨_,rfl⟩
            rw [←hsv] at R1
            have HSv:=qd hsv
            obtain ⟨n9,hn9⟩:∃n,n=(runN (recW bs) ins).1.length:=⟨_,rfl⟩
            rw [←hn9] at R1 hnl
            have esv:((sv:Int) != (sv:Int))=false:=by simp
            have gnl:¬(KK:Int)<(n9:Int):=by omega
            have dnl:decide ((KK:Int)<(n9:Int))=false:=decide_eq_false gnl
            have y0:=hkx.cell 0 rfl
            have y1:=hkx.cell 1 rfl
            have y2:=hkx.cell 2 rfl
            have y3:=hkx.cell 3 rfl
            have y4:=hkx.cell 4 rfl
            have y5:=hkx.cell 5 rfl
            have y6:=hkx.cell 6 rfl
            have y7:=hkx.cell 7 rfl
            have y8:=hkx.cell 8 rfl
            have yl:=hkx.lt
            clear hbs hrl hse hsy hsv hn9 hbx hkx hb3 hgx
            go_wp2_with fail
            refine R1.out.mono ?_
            clear y0 y1 y2 y3 y4 y5 y6 y7 y8 yl R1
            rintro e w14 ⟨rfl,hf,hg⟩
            have HTy:=qd HF.out.bk.tyb
            have HKx:=qd (HKx.out.grown hg (fun e=>HGx.out (Option.some.inj e)))
            have HRt:=qd (HRt.out.grown hg (HRt.out.off HTy.out (by decide)))
            have HPGz:=qd (pg_fil HPGz.out hg HFo.out)
            have HKz:=qd (HKz.out.grown hg (fun e=>HFk.out (Option.some.inj e)))
            have HGz:=qd (grown_trans HGz.out hg (fun j hj=>.inl hj))
            have HF:=qd hf
            clear hf hg HTy
            have y0:=HKx.out.cell 0 rfl
            have y1:=HKx.out.cell 1 rfl
            have y2:=HKx.out.cell 2 rfl
            have y3:=HKx.out.cell 3 rfl
            have y4:=HKx.out.cell 4 rfl
            have y5:=HKx.out.cell 5 rfl
            have y6:=HKx.out.cell 6 rfl
            have y7:=HKx.out.cell 7 rfl
            have y8:=HKx.out.cell 8 rfl
            have yl:=HKx.out.lt
            have q0:=HKz.out.cell 0 rfl
            have q1:=HKz.out.cell 1 rfl
            have q2:=HKz.out.cell 2 rfl
            have q3:=HKz.out.cell 3 rfl
            have q4:=HKz.out.cell 4 rfl
            have q5:=HKz.out.cell 5 rfl
            have ql:=HKz.out.lt
            go_wp2_with fail
            refine (Me.says_any ⟨xx.name.toArray⟩ xx.dflt xx.rules xx.RA nR xx.Rc xx.handled xx.PA nP xx.Pc xx.QA nQ xx.Qc x w14 HPG.out.eR (by have:=HPG.out.q.r;have:=HPG.out.eR;omega) (rrd_of HPGz.out.rd HPG.out.q) HXo.out).mono ?_
            clear y0 y1 y2 y3 y4 y5 y6 y7 y8 yl q0 q1 q2 q3 q4 q5 ql
            rintro e w15 ⟨rfl,hb15⟩
            rw [←HSv.out]
            have HF:=qd (HF.out.below (hb15.mono HF.out.le))
            have HGz:=qd (grow_below HGz.out hb15)
            have HRt:=qd (HRt.out.below hb15)
            clear hb15
            go_wp2_with fail
            go_roundw
            case rel=>exact ⟨j+1,st+n9,by go_num,by omega,by omega,HF,HGz,HRt⟩
            case measure=>simp [intOf];omega
           ·obtain rfl:j=nT:=by omega
            have hd:=difference_none ⟨xx.name.toArray⟩ xx.dflt xx.rules xx.RA nR xx.Rc xx.handled xx.PA nP xx.Pc xx.QA nQ xx.Qc BB fq fb fo fc j st ins ts j A7 c7 wz HPG.out.eR (by have:=HPG.out.q.r;have:=HPG.out.eR;omega) (rrd_of HPGz.out.rd HPG.out.q) HPG.out.q.cs HF.out HGd.out HIk.out (by rw [←HKK.out];exact HIl) (fun x hx bs hb=>HSay.out x hx bs hb) HNT.out (by omega) (by omega) (by omega) HRt.out HOkT.out
            have HD:=qd hd
            clear hd
            have q0:=HKz.out.cell 0 rfl
            have q1:=HKz.out.cell 1 rfl
            have q2:=HKz.out.cell 2 rfl
            have q3:=HKz.out.cell 3 rfl
            have q4:=HKz.out.cell 4 rfl
            have q5:=HKz.out.cell 5 rfl
            have ql:=HKz.out.lt
            go_wp2_with fail
            refine HD.out.mono ?_
            clear q0 q1 q2 q3 q4 q5 ql HD
            rintro e w16 ⟨rfl,_,hg16⟩
            have HGe:=qd (grown_trans HGz.out hg16 (fun j hj=>.inl hj))
            have HT:=qd (ts_fil HT.out HGe.out HFt.out.1 HFy.out)
            have HGr:=qd (grown_trans HGr.out HGe.out (fun j hj=>.inr (by cases hj;exact HF5.out)))
            clear hg16 HGe
            go_upto_region 33 with fail
            have hb17:=oneb w16 (.cells #[.int .u32 0,.int .u32 0,.int .u64 0,.int .u64 0,.int .u64 0,.int .u64 0,.int .u64 0,.int .u64 0,.int .u64 0] 60)
            have HGr:=qd (grow_below HGr.out hb17)
            have HT:=qd (HT.out.kept hb17)
            generalize World.alloc w16 _=w17 at HGr HT ⊢
            generalize w16.heap.size=gz
            clear hb17
            go_wp2_with fail
            go_roundw
            case rel=>exact ⟨k+1,by go_num,by omega,HGr,qd (HT.out.mono (by omega))⟩
            case measure=>simp [intOf];omega
      ·go_wp2_with fail
       go_ret
       exact ⟨rfl,only_below HB5.out HGr.out HB5.out.size HTb.out⟩
    exact AllReadyH.nil
   exact AllReadyH.nil
end Go.Proofs.YtcnebdjhhfnmoaaGreatDoor.Co
