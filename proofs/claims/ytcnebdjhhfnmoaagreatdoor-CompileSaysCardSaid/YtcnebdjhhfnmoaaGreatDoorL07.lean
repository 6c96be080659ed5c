/- Code that is being made: a comparison; a part. -/
import Derived.Test.YtcnebdjhhfnmoaaGreatDoorL06
import Derived.Test.YtcnebdjhhfnmoaaGreatDoorL01
set_option maxHeartbeats 32000000
set_option maxRecDepth 100000
namespace Go.Proofs.YtcnebdjhhfnmoaaGreatDoor.Ju
open Go.RowKit Go.Maps Go.WideMaps Go.WideElems Go.ChangeMaps
theorem CR.other {w w':World}{p m B g:Nat}{v:Value}{c:CdM}(h:CR w p m B v c)(hg:w.grownBy w' (some g))(h1:g≠p)(h2:g≠m)(h3:some g≠v.ownBlock):CR w' p m B v c:=
 ⟨h.box.grown hg (fun e=>h1 (by injection e with e;exact e.symm)),own_keep h.row hg (fun b hb e=>h3 (by rw [hb,e])),h.mp.grown hg (fun e=>h2 (by injection e with e;exact e.symm)),h.pB,h.mB,h.pm,Nat.le_trans h.le hg.size⟩
theorem Fr.new {w w' w2:World}{p m g:Nat}{v v':Value}(h:Fr p m v v' w w')(hg:w'.grownBy w2 (some g))(hn:w.heap.size≤g):Fr p m v v' w w2:=
 ⟨hg.os.trans h.os,hg.tape.trans h.tape,hg.output.trans h.output,Nat.le_trans h.size hg.size,fun i hi h1 h2 h3=>(hg.block i (Nat.lt_of_lt_of_le hi h.size) (fun e=>by injection e with e;omega)).trans (h.block i hi h1 h2 h3),h.own⟩
theorem compare_any (w:World)(p m B:Nat)(v:Value)(c:CdM)(q:PtM)(h:CR w p m B v c)(hk:q.kd=3)(hq:q.ok)(hbn:Bnd c)(hl:c.ins.length≤4990) :
  Calls Tryz.prog 109 #[.pointer (some ⟨p,0,none⟩),.agg q.cells.toArray] w (StepPost p m B v w ((layF q c).1:Nat) (layF q c).2):=by
 show Calls Tryz.prog _ #[.pointer (some ⟨p,0,none⟩),.agg #[.int .u8 q.kd,.int .i64 q.tQ,.int .i64 q.el,.int .u16 q.i.c,.int .u8 q.i.t,.int .u8 q.i.f,.int .u32 q.i.k]] w _
 have HK:=qd hk
 clear hk
 obtain ⟨W,hW⟩:∃W,W=w.alloc (.cells #[.int .u8 q.kd,.int .i64 q.tQ,.int .i64 q.el,.int .u16 q.i.c,.int .u8 q.i.t,.int .u8 q.i.f,.int .u32 q.i.k] 78):=⟨_,rfl⟩
 have hbx:Bk W w.heap.size 78 q.cells:=by rw [hW];exact Bk.new w _ _ rfl
 have hb1:Below w.heap.size w W:=by rw [hW];exact oneb w _
 have hpl:p<w.heap.size:=h.box.lt
 have hml:m<w.heap.size:=h.mp.lt
 have hvl:∀g,v.ownBlock=some g→g<w.heap.size:=fun g hg=>(own_ge h.row g hg).2
 have HC:=qd (h.below hb1)
 have HF:=qd (Fr.of_below p m v hb1)
 have HBx:=qd hbx
 have HCl:=qd (fun W=>class_any q.i.c W hq.i.1)
 go_enter Tryz.func109,Tryz.ntmps109
 go_upto_region 1 with fail
 rw [←hW]
 have hxg:w.heap.size≤W.heap.size:=hb1.size
 clear hW hb1 hbx h
 have HXG:=qd hxg
 generalize hxb:w.heap.size=xb at *
 have HXW:=qd hxb
 clear hxb
 have y0:=HBx.out.cell 0 rfl
 have y1:=HBx.out.cell 1 rfl
 have y2:=HBx.out.cell 2 rfl
 have y3:=HBx.out.cell 3 rfl
 have y4:=HBx.out.cell 4 rfl
 have y5:=HBx.out.cell 5 rfl
 have y6:=HBx.out.cell 6 rfl
 have yl:=HBx.out.lt
 go_upto_region 2 with fail
 clear y0 y1 y2 y3 y4 y5 y6
 have hbi:=oneb W (.cells #[.int .u16 q.i.c,.int .u8 q.i.t,.int .u8 q.i.f,.int .u32 q.i.k] 76)
 have hki:=Bk.new W 76 #[.int .u16 q.i.c,.int .u8 q.i.t,.int .u8 q.i.f,.int .u32 q.i.k] (l:=[.int .u16 q.i.c,.int .u8 q.i.t,.int .u8 q.i.f,.int .u32 q.i.k]) rfl
 have hxi:W.heap.size≠p∧W.heap.size≠m∧some W.heap.size≠v.ownBlock:=⟨by omega,by omega,fun e=>by have:=hvl _ e.symm;omega⟩
 have hxb:xb≠p∧xb≠m∧some xb≠v.ownBlock:=⟨by omega,by omega,fun e=>by have:=hvl _ e.symm;omega⟩
 generalize World.alloc W _=W2 at hbi hki ⊢
 have HC:=qd (HC.out.below hbi)
 have HF:=qd (HF.out.trans (Fr.of_below p m v hbi))
 have HBx:=qd (HBx.out.kept hbi)
 generalize W.heap.size=gi at hki hxi hxg HXG ⊢
 have HBi:=qd hki
 clear hbi hki yl hpl hml hvl hxg
 have i0:=HBi.out.cell 0 rfl
 have il:=HBi.out.lt
 have HX:=qd (And.intro hxi hxb)
 have HBXL:=qd HBx.out.lt
 have HBIL:=qd HBi.out.lt
 clear hxi hxb
 obtain ⟨z,hz⟩:∃z,z=q.i.c%8:=⟨_,rfl⟩
 rw [←hz] at HCl
 go_wp2_with fail
 refine (HCl.out _).mono ?_
 rintro e w1 ⟨rfl,rfl⟩
 by_cases h5:z=5
 rotate_left
 ·have e1:((z:Int) != 5)=true:=by rw [bne_iff_ne];omega
  have HV:=qd (show layF q c=(210,c) by unfold layF;rw [HK.out,←hz];simp [h5])
  clear h5 hz
  go_wp2_with fail
  go_ret
  rw [HV.out]
  exact ⟨rfl,_,HC.out,HF.out⟩
 have e1:((z:Int) != 5)=false:=by rw [h5];rfl
 by_cases hja:q.i.c=5
 ·have e2:((q.i.c:Int)==5)=true:=by rw [hja];rfl
  have HV:=qd (show layF q c=(210,c) by unfold layF;rw [HK.out];simp [hja])
  clear h5 hz hja
  go_wp2_with fail
  go_ret
  rw [HV.out]
  exact ⟨rfl,_,HC.out,HF.out⟩
 have e2:((q.i.c:Int)==5)=false:=by rw [beq_eq_false_iff_ne];omega
 have HV:=qd (show layF q c=(match lk q.tQ c.bh,lk q.el c.bh with|some bt,some bf=>(0,⟨cmpF c.ins q.i bt bf,c.bh⟩)|_,_=>(207,c)) by unfold layF;rw [HK.out];simp [←hz,h5,hja];try rfl)
 clear hz hja h5
 have HTt:=qd (there_any W2 p m B v c q.tQ HC.out hq.to1 hq.to2)
 have HTe:=qd (there_any W2 p m B v c q.el HC.out hq.el1 hq.el2)
 have y1:=HBx.out.cell 1 rfl
 have y2:=HBx.out.cell 2 rfl
 have yl:=HBx.out.lt
 cases hbt:lk q.tQ c.bh with
 | none=>
  rw [hbt] at HTt HV
  clear hbt
  go_wp2_with fail
  refine HTt.out.mono ?_
  rintro e w1 ⟨rfl,rfl⟩
  go_wp2_with fail
  go_ret
  rw [HV.out]
  exact ⟨rfl,_,HC.out,HF.out⟩
 | some bt=>
  cases hbf:lk q.el c.bh with
  | none=>
   rw [hbt] at HTt
   rw [hbt,hbf] at HV
   rw [hbf] at HTe
   clear hbt hbf
   go_wp2_with fail
   refine HTt.out.mono ?_
   rintro e w1 ⟨rfl,rfl⟩
   go_wp2_with fail
   refine HTe.out.mono ?_
   rintro e w1 ⟨rfl,rfl⟩
   go_wp2_with fail
   go_ret
   rw [HV.out]
   exact ⟨rfl,_,HC.out,HF.out⟩
  | some bf=>
   have HRe:=qd (fun W (h:CR W p m B v c)=>reach_any W p m B v c q.el bf h hq.el1 hq.el2 hbf (hbn _ _ hbf) (by omega))
   have HB:=qd (And.intro hbt (hbn _ _ hbt))
   rw [hbt] at HTt
   rw [hbt,hbf] at HV
   rw [hbf] at HTe
   obtain ⟨g1,g2,g3⟩:=reach_len c.ins bf
   obtain ⟨g4,g5,g6⟩:=reach_len (reachF c.ins bf).2 bt
   obtain ⟨c1,hc1⟩:∃c1:CdM,c1=⟨(reachF c.ins bf).2,c.bh⟩:=⟨_,rfl⟩
   obtain ⟨c2,hc2⟩:∃c2:CdM,c2=⟨(reachF c1.ins bt).2,c.bh⟩:=⟨_,rfl⟩
   obtain ⟨f1,hf1⟩:∃f1,f1=(reachF c.ins bf).1:=⟨_,rfl⟩
   obtain ⟨jt,hjt⟩:∃jt,jt=(reachF c1.ins bt).1:=⟨_,rfl⟩
   have HV2:=qd (show layF q c=(0,⟨⟨q.i.c,jt,f1+(c2.ins.length-c1.ins.length),q.i.k⟩::c2.ins,c2.bh⟩) by rw [HV.out,hf1,hjt,hc2,hc1];rfl)
   have HRt:=qd (fun (W:World) (v:Value) (h:CR W p m B v c1)=>reach_any W p m B v c1 q.tQ bt h hq.to1 hq.to2 (by rw [hc1];exact HB.out.1) (by have:=HB.out.2;rw [hc1];simp only;omega) (by rw [hc1];simp only;omega))
   have hcb:(⟨(reachF c1.ins bt).2,c1.bh⟩:CdM)=c2:=by rw [hc2,hc1]
   rw [←hjt,hcb] at HRt
   rw [←hf1,←hc1] at HRe
   have l1:(reachF c.ins bf).2=c1.ins:=by rw [hc1]
   rw [l1] at g1 g2 g4 g5 g6
   have l2:(reachF c1.ins bt).2=c2.ins:=by rw [hc2]
   rw [l2] at g4 g5
   rw [←hf1] at g3
   rw [←hjt] at g6
   clear hbt hbf hc1 hc2 hf1 hjt hcb l1 l2 HV HB
   obtain ⟨n1,hn1⟩:∃n,n=c1.ins.length:=⟨_,rfl⟩
   obtain ⟨n2,hn2⟩:∃n,n=c2.ins.length:=⟨_,rfl⟩
   rw [←hn1] at HV2 g1 g2 g4 g5
   have hl2:c2.ins.length≤5000:=by omega
   rw [←hn2] at HV2 g4 g5
   have HN1:=qd hn1
   have HN2:=qd hn2
   clear hn1 hn2
   obtain ⟨jf,hjf⟩:∃jf,jf=f1+(n2-n1):=⟨_,rfl⟩
   have HV:=qd (show layF q c=(0,⟨⟨q.i.c,jt,jf,q.i.k⟩::c2.ins,c2.bh⟩) by rw [HV2.out,hjf])
   have e3:IntKind.i64.wrap ((n2:Int)-(n1:Int))=(n2:Int)-(n1:Int):=by rw [IntKind.wrap_i64];omega
   have e4:IntKind.i64.wrap ((f1:Int)+((n2:Int)-(n1:Int)))=(jf:Int):=by rw [IntKind.wrap_i64];omega
   have e5:IntKind.u8.wrap (jt:Int)=(jt:Int):=by rw [IntKind.wrap_u8];omega
   have e6:IntKind.u8.wrap (jf:Int)=(jf:Int):=by rw [IntKind.wrap_u8];omega
   clear hjf g1 g2 g3 g4 g5 g6 HV2
   go_wp2_with fail
   refine HTt.out.mono ?_
   rintro e w1 ⟨rfl,rfl⟩
   go_wp2_with fail
   refine HTe.out.mono ?_
   rintro e w1 ⟨rfl,rfl⟩
   go_wp2_with fail
   refine (HRe.out _ HC.out).mono ?_
   clear HTt HTe HRe i0 il y1 y2 yl
   rintro e w2 ⟨rfl,v2,hC2,hF2⟩
   have HBx:=qd (Bk.fr HBx.out hF2 HX.out.2.1 HX.out.2.2.1 HX.out.2.2.2)
   have HBi:=qd (Bk.fr HBi.out hF2 HX.out.1.1 HX.out.1.2.1 HX.out.1.2.2)
   have HC:=qd hC2
   have hX1:some xb≠v2.ownBlock∧some gi≠v2.ownBlock:=by
    rcases hF2.own with e|e
    ·rw [e];exact ⟨HX.out.2.2.2,HX.out.1.2.2⟩
    ·exact ⟨fun e2=>by have:=e _ e2.symm;have:=HBXL.out;omega,fun e2=>by have:=e _ e2.symm;have:=HBIL.out;omega⟩
   have HF:=qd (HF.out.trans hF2)
   have HF2S:=qd hF2.size
   clear hC2 hF2
   obtain ⟨A1,cp1,rfl⟩:=HC.out.slice
   obtain ⟨k0,k1,kl,kf⟩:=HC.out.cells
   rw [←HN1.out] at k0
   have y1:=HBx.out.cell 1 rfl
   have yl:=HBx.out.lt
   go_wp2_with fail
   refine (HRt.out _ _ HC.out).mono ?_
   clear k0 k1 kl kf y1 yl HRt
   rintro e w3 ⟨rfl,v3,hC3,hF3⟩
   have HBi:=qd (Bk.fr HBi.out hF3 HX.out.1.1 HX.out.1.2.1 hX1.2)
   have HC:=qd hC3
   have HF:=qd (HF.out.trans hF3)
   have hX2:some gi≠v3.ownBlock:=by
    rcases hF3.own with e|e
    ·rw [e];exact hX1.2
    ·exact fun e2=>by have:=e _ e2.symm;have:=HBIL.out;have:=HF2S.out;omega
   clear hC3 hF3 hX1
   obtain ⟨A3,cp3,rfl⟩:=HC.out.slice
   obtain ⟨k0,k1,kl,kf⟩:=HC.out.cells
   rw [←HN2.out] at k0
   have i0:=HBi.out.cell 0 rfl
   have i1:=HBi.out.cell 1 rfl
   have i2:=HBi.out.cell 2 rfl
   have i3:=HBi.out.cell 3 rfl
   have f1':=HBi.out.fz 1
   have f2':=HBi.out.fz 2
   have il:=HBi.out.lt
   go_upto_region 11 with fail
   clear i0 i1 i2 i3 f1' f2' il k0 k1 kl kf
   have hk4:=(HBi.out.set 1 (.int .u8 jt)).set 2 (.int .u8 jf)
   have hg4:=only_trans (only_set w3 gi 1 (.int .u8 jt)) (only_set _ gi 2 (.int .u8 jf))
   have hC4:=HC.out.other hg4 HX.out.1.1 HX.out.1.2.1 hX2
   have hF4:=HF.out.new hg4 (by rw [HXW.out];exact HXG.out)
   generalize (w3.setCell ⟨gi,1,none⟩ (.int .u8 jt)).setCell ⟨gi,2,none⟩ (.int .u8 jf)=w4 at hk4 hC4 hF4 ⊢
   have hk4:Bk w4 gi 76 [.int .u16 q.i.c,.int .u8 jt,.int .u8 jf,.int .u32 q.i.k]:=hk4
   have HC:=qd hC4.drew
   have HF:=qd (hF4.trans (Fr.of_below p m _ (Below.refl w4.heap.size w4).drew))
   clear hC4 hF4 hg4 hX2
   have i0:=hk4.cell 0 rfl
   have i1:=hk4.cell 1 rfl
   have i2:=hk4.cell 2 rfl
   have i3:=hk4.cell 3 rfl
   have il:=hk4.lt
   clear hk4
   obtain ⟨k0,k1,kl,kf⟩:=HC.out.cells
   have kl2:p<w4.heap.size:=kl
   have k02:w4.cell? ⟨p,0,none⟩=some (.slice A3 c2.ins.length cp3):=k0
   refine wp_region_any (by kernel_rfl) ?_
   try (change wpAny _ _ _ _ _ _ _ (World.drew _))
   refine wpAny_take (i:=0) (v:=?_) rfl (by kernel_rfl) (by kernel_rfl) (by kernel_rfl) (fun _ _ _ h=>h) (Or.inl ⟨by rfl,?_⟩) ?_
   rotate_left 1
   ·intro w
    go_simp<;>with_reducible rfl
   refine wpAny_take (i:=1) (v:=?_) rfl (by kernel_rfl) (by kernel_rfl) (by kernel_rfl) (fun _ _ _ h=>h) (Or.inl ⟨by rfl,?_⟩) ?_
   rotate_left 1
   ·intro w
    go_simp<;>with_reducible rfl
   refine wpAny_take (i:=2) (v:=?_) rfl (by kernel_rfl) (by kernel_rfl) (by kernel_rfl) (fun _ _ _ h=>h) (Or.inl ⟨by rfl,?_⟩) ?_
   rotate_left 1
   ·intro w
    go_simp<;>with_reducible rfl
   refine wpAny_take (i:=3) (v:=?_) rfl (by kernel_rfl) (by kernel_rfl) (by kernel_rfl) (fun _ _ _ h=>h) (Or.inl ⟨by rfl,?_⟩) ?_
   rotate_left 1
   ·intro w
    go_simp<;>with_reducible rfl
   refine wpAny_ready (rs:=[4,5]) (by kernel_rfl) (by simp) ?_
   refine AllReady.cons rfl (fun K hK=>?_) ?_
   ·skip
    go_simp
    refine hK _ _ ?_
    clear hK K
    refine wpAny_ready (rs:=[5]) (by kernel_rfl) (by simp) ?_
    refine AllReady.cons rfl (fun K hK=>?_) ?_
    ·skip
     go_simp
     refine hK _ _ ?_
     clear hK K
     refine wpAny_ready (rs:=[6]) (by kernel_rfl) (by simp) ?_
     refine AllReady.cons rfl (fun K hK=>?_) ?_
     ·skip
      go_simp
      refine hK _ _ ?_
      clear hK K
      refine wpAny_ready (rs:=[7]) (by kernel_rfl) (by simp) ?_
      refine AllReady.cons rfl (fun K hK=>?_) ?_
      ·skip
       obtain ⟨v2,wb,hr,hC2,hF2,r0,r1,r2⟩:=CR.run HC.out (⟨q.i.c,jt,jf,q.i.k⟩:Ins) hl2 47
       obtain ⟨A2,cc2,hv2⟩:=hC2.slice
       obtain ⟨n2,hn2⟩:∃n2,n2=(⟨(⟨q.i.c,jt,jf,q.i.k⟩:Ins)::c2.ins,c2.bh⟩:CdM).ins.length:=⟨_,rfl⟩
       rw [←hn2] at hv2
       clear hn2
       subst hv2
       have HC2:=qd hC2
       have HF2:=qd (HF.out.trans hF2)
       refine op_append (.tmp 64) (.tmp 66) 47 rfl _ _ _ wb rfl rfl hr ?_
       refine hK _ _ ?_
       clear hK K hr hC2 hF2 k0 k1 kl kf
       refine wpAny_take (i:=8) (v:=?_) rfl (by kernel_rfl) (by kernel_rfl) (by kernel_rfl) (fun _ _ _ h=>h) (Or.inl ⟨by rfl,?_⟩) ?_
       rotate_left 1
       ·intro w
        go_simp<;>with_reducible rfl
       refine wpAny_take (i:=9) (v:=?_) rfl (by kernel_rfl) (by kernel_rfl) (by kernel_rfl) (fun _ _ _ h=>h) (Or.inl ⟨by rfl,?_⟩) ?_
       rotate_left 1
       ·intro w
        go_simp<;>with_reducible rfl
       refine wpAny_ready (rs:=[10]) (by kernel_rfl) (by simp) ?_
       refine AllReady.cons rfl (fun K hK=>?_) ?_
       ·skip
        go_simp
        refine hK _ _ ?_
        clear hK K
        refine wpAny_done (by kernel_rfl) ?_ _
        go_wp2_with fail
        go_ret
        rw [HV.out]
        exact ⟨rfl,_,HC2.out,HF2.out⟩
       exact AllReady.nil
      exact AllReady.nil
     exact AllReady.nil
    exact AllReady.nil
   refine AllReady.cons rfl (fun K hK=>?_) ?_
   ·skip
    go_simp
    refine hK _ _ ?_
    clear hK K
    refine wpAny_ready (rs:=[4,6]) (by kernel_rfl) (by simp) ?_
    refine AllReady.cons rfl (fun K hK=>?_) ?_
    ·skip
     go_simp
     refine hK _ _ ?_
     clear hK K
     refine wpAny_ready (rs:=[6]) (by kernel_rfl) (by simp) ?_
     refine AllReady.cons rfl (fun K hK=>?_) ?_
     ·skip
      go_simp
      refine hK _ _ ?_
      clear hK K
      refine wpAny_ready (rs:=[7]) (by kernel_rfl) (by simp) ?_
      refine AllReady.cons rfl (fun K hK=>?_) ?_
      ·skip
       obtain ⟨v2,wb,hr,hC2,hF2,r0,r1,r2⟩:=CR.run HC.out (⟨q.i.c,jt,jf,q.i.k⟩:Ins) hl2 47
       obtain ⟨A2,cc2,hv2⟩:=hC2.slice
       obtain ⟨n2,hn2⟩:∃n2,n2=(⟨(⟨q.i.c,jt,jf,q.i.k⟩:Ins)::c2.ins,c2.bh⟩:CdM).ins.length:=⟨_,rfl⟩
       rw [←hn2] at hv2
       clear hn2
       subst hv2
       have HC2:=qd hC2
       have HF2:=qd (HF.out.trans hF2)
       refine op_append (.tmp 64) (.tmp 66) 47 rfl _ _ _ wb rfl rfl hr ?_
       refine hK _ _ ?_
       clear hK K hr hC2 hF2 k0 k1 kl kf
       refine wpAny_take (i:=8) (v:=?_) rfl (by kernel_rfl) (by kernel_rfl) (by kernel_rfl) (fun _ _ _ h=>h) (Or.inl ⟨by rfl,?_⟩) ?_
       rotate_left 1
       ·intro w
        go_simp<;>with_reducible rfl
       refine wpAny_take (i:=9) (v:=?_) rfl (by kernel_rfl) (by kernel_rfl) (by kernel_rfl) (fun _ _ _ h=>h) (Or.inl ⟨by rfl,?_⟩) ?_
       rotate_left 1
       ·intro w
        go_simp<;>with_reducible rfl
       refine wpAny_ready (rs:=[10]) (by kernel_rfl) (by simp) ?_
       refine AllReady.cons rfl (fun K hK=>?_) ?_
       ·skip
        go_simp
        refine hK _ _ ?_
        clear hK K
        refine wpAny_done (by kernel_rfl) ?_ _
        go_wp2_with fail
        go_ret
        rw [HV.out]
        exact ⟨rfl,_,HC2.out,HF2.out⟩
       exact AllReady.nil
      exact AllReady.nil
     exact AllReady.nil
    refine AllReady.cons rfl (fun K hK=>?_) ?_
    ·skip
     go_simp
     refine hK _ _ ?_
     clear hK K
     refine wpAny_ready (rs:=[4]) (by kernel_rfl) (by simp) ?_
     refine AllReady.cons rfl (fun K hK=>?_) ?_
     ·skip
      go_simp
      refine hK _ _ ?_
      clear hK K
      refine wpAny_ready (rs:=[7]) (by kernel_rfl) (by simp) ?_
      refine AllReady.cons rfl (fun K hK=>?_) ?_
      ·skip
       obtain ⟨v2,wb,hr,hC2,hF2,r0,r1,r2⟩:=CR.run HC.out (⟨q.i.c,jt,jf,q.i.k⟩:Ins) hl2 47
       obtain ⟨A2,cc2,hv2⟩:=hC2.slice
       obtain ⟨n2,hn2⟩:∃n2,n2=(⟨(⟨q.i.c,jt,jf,q.i.k⟩:Ins)::c2.ins,c2.bh⟩:CdM).ins.length:=⟨_,rfl⟩
       rw [←hn2] at hv2
       clear hn2
       subst hv2
       have HC2:=qd hC2
       have HF2:=qd (HF.out.trans hF2)
       refine op_append (.tmp 64) (.tmp 66) 47 rfl _ _ _ wb rfl rfl hr ?_
       refine hK _ _ ?_
       clear hK K hr hC2 hF2 k0 k1 kl kf
       refine wpAny_take (i:=8) (v:=?_) rfl (by kernel_rfl) (by kernel_rfl) (by kernel_rfl) (fun _ _ _ h=>h) (Or.inl ⟨by rfl,?_⟩) ?_
       rotate_left 1
       ·intro w
        go_simp<;>with_reducible rfl
       refine wpAny_take (i:=9) (v:=?_) rfl (by kernel_rfl) (by kernel_rfl) (by kernel_rfl) (fun _ _ _ h=>h) (Or.inl ⟨by rfl,?_⟩) ?_
       rotate_left 1
       ·intro w
        go_simp<;>with_reducible rfl
       refine wpAny_ready (rs:=[10]) (by kernel_rfl) (by simp) ?_
       refine AllReady.cons rfl (fun K hK=>?_) ?_
       ·skip
        go_simp
        refine hK _ _ ?_
        clear hK K
        refine wpAny_done (by kernel_rfl) ?_ _
        go_wp2_with fail
        go_ret
        rw [HV.out]
        exact ⟨rfl,_,HC2.out,HF2.out⟩
       exact AllReady.nil
      exact AllReady.nil
     exact AllReady.nil
    exact AllReady.nil
   exact AllReady.nil
end Go.Proofs.YtcnebdjhhfnmoaaGreatDoor.Ju
namespace Go.Proofs.YtcnebdjhhfnmoaaGreatDoor.Ju
open Go.RowKit Go.Maps Go.WideMaps Go.WideElems Go.ChangeMaps
theorem lay_any (w:World)(p m B:Nat)(v:Value)(c:CdM)(q:PtM)(h:CR w p m B v c)(hq:q.ok)(hbn:Bnd c)(hl:c.ins.length≤4990)(hbl:c.bh.length≤100000) :
  Calls Tryz.prog 61 #[.pointer (some ⟨p,0,none⟩),.agg q.cells.toArray] w (StepPost p m B v w ((layF q c).1:Nat) (layF q c).2):=by
 show Calls Tryz.prog _ #[.pointer (some ⟨p,0,none⟩),.agg #[.int .u8 q.kd,.int .i64 q.tQ,.int .i64 q.el,.int .u16 q.i.c,.int .u8 q.i.t,.int .u8 q.i.f,.int .u32 q.i.k]] w _
 obtain ⟨W,hW⟩:∃W,W=w.alloc (.cells #[.int .u8 q.kd,.int .i64 q.tQ,.int .i64 q.el,.int .u16 q.i.c,.int .u8 q.i.t,.int .u8 q.i.f,.int .u32 q.i.k] 78):=⟨_,rfl⟩
 have hbx:Bk W w.heap.size 78 q.cells:=by rw [hW];exact Bk.new w _ _ rfl
 have hb1:Below w.heap.size w W:=by rw [hW];exact oneb w _
 have HC:=qd (h.below hb1)
 have HF:=qd (Fr.of_below p m v hb1)
 have HBx:=qd hbx
 go_enter Tryz.func61,Tryz.ntmps61
 go_upto_region 1 with fail
 rw [←hW]
 clear hW hb1 hbx h
 generalize w.heap.size=xb at *
 have y0:=HBx.out.cell 0 rfl
 have y1:=HBx.out.cell 1 rfl
 have y2:=HBx.out.cell 2 rfl
 have y3:=HBx.out.cell 3 rfl
 have y4:=HBx.out.cell 4 rfl
 have y5:=HBx.out.cell 5 rfl
 have y6:=HBx.out.cell 6 rfl
 have yl:=HBx.out.lt
 by_cases h1:q.kd=1
 ·have e1:((q.kd:Int)==1)=true:=by rw [h1];rfl
  have HK:=qd h1
  clear h1
  go_wp2_with fail
  refine (here_any W p m B v c q HC.out HK.out hq.to1 hq.to2 (by omega) hbl).mono ?_
  rintro e w2 ⟨rfl,v2,hC2,hF2⟩
  have HC2:=qd hC2
  have HF2:=qd (HF.out.trans hF2)
  clear hC2 hF2
  go_wp2_with fail
  go_ret
  exact ⟨rfl,_,HC2.out,HF2.out⟩
 have e1:((q.kd:Int)==1)=false:=by rw [beq_eq_false_iff_ne];omega
 by_cases h2:q.kd=2
 ·have e2:((q.kd:Int)==2)=true:=by rw [h2];rfl
  have HK:=qd h2
  clear h1 h2
  go_wp2_with fail
  refine (plain_any W p m B v c q HC.out HK.out hq.i (by omega)).mono ?_
  rintro e w2 ⟨rfl,v2,hC2,hF2⟩
  have HC2:=qd hC2
  have HF2:=qd (HF.out.trans hF2)
  clear hC2 hF2
  go_wp2_with fail
  go_ret
  exact ⟨rfl,_,HC2.out,HF2.out⟩
 have e2:((q.kd:Int)==2)=false:=by rw [beq_eq_false_iff_ne];omega
 by_cases h3:q.kd=3
 ·have e3:((q.kd:Int)==3)=true:=by rw [h3];rfl
  have HK:=qd h3
  clear h1 h2 h3
  go_wp2_with fail
  refine (compare_any W p m B v c q HC.out HK.out hq hbn hl).mono ?_
  rintro e w2 ⟨rfl,v2,hC2,hF2⟩
  have HC2:=qd hC2
  have HF2:=qd (HF.out.trans hF2)
  clear hC2 hF2
  go_wp2_with fail
  go_ret
  exact ⟨rfl,_,HC2.out,HF2.out⟩
 have e3:((q.kd:Int)==3)=false:=by rw [beq_eq_false_iff_ne];omega
 by_cases h4:q.kd=4
 ·have e4:((q.kd:Int)==4)=true:=by rw [h4];rfl
  have HK:=qd h4
  clear h1 h2 h3 h4
  go_wp2_with fail
  refine (leave_any W p m B v c q HC.out HK.out hq.to1 hq.to2 hbn (by omega)).mono ?_
  rintro e w2 ⟨rfl,v2,hC2,hF2⟩
  have HC2:=qd hC2
  have HF2:=qd (HF.out.trans hF2)
  clear hC2 hF2
  go_wp2_with fail
  go_ret
  exact ⟨rfl,_,HC2.out,HF2.out⟩
 have e4:((q.kd:Int)==4)=false:=by rw [beq_eq_false_iff_ne];omega
 have HV:=qd (show layF q c=(210,c) by unfold layF;rw [if_neg h1,if_neg h2,if_neg h3,if_neg h4])
 clear h1 h2 h3 h4
 go_wp2_with fail
 go_ret
 rw [HV.out]
 exact ⟨rfl,_,HC.out,HF.out⟩
end Go.Proofs.YtcnebdjhhfnmoaaGreatDoor.Ju
