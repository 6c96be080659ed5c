/- Tidy: parts without what nobody comes tQ; without Gotos tQ what comes next. -/
import Derived.Test.YtcnebdjhhfnmoaaGreatDoorL08
import Derived.Test.YtcnebdjhhfnmoaaGreatDoorL09
import Derived.Test.YtcnebdjhhfnmoaaGreatDoorL01
set_option maxHeartbeats 32000000
set_option maxRecDepth 100000
namespace Go.Proofs.YtcnebdjhhfnmoaaGreatDoor.Ju
open Go.RowKit Go.Maps Go.WideMaps Go.WideElems Go.ChangeMaps
def ClP2 (l:List PtM)(w:World)(e:Ending)(w':World):Prop:=
 ∃A cp,e=.returned (.slice A l.length cp)∧w'.ownsRow w.heap.size 78 7 (.slice A l.length cp) l.length (l.flatMap PtM.cells)∧Below w.heap.size w w'
theorem use_step {l:List PtM}{i:Nat}{q:PtM}(h:l[i]?=some q):(l.take (i+1)).foldl (fun W p=>cntW p 1 W) []=cntW q 1 ((l.take i).foldl (fun W p=>cntW p 1 W) []):=by
 rw [List.take_add_one,h,List.foldl_append];rfl
theorem use_sm:∀(k:Nat){l:List PtM},(∀p∈l,p.ok)→SmW (2*k) ((l.take k).foldl (fun W p=>cntW p 1 W) []):=by
 intro k l h
 induction k with
 | zero=>exact ⟨by simp,by simp⟩
 | succ k ih=>
  cases hq:l[k]? with
  | none=>
   rw [List.take_add_one,hq]
   simp only [Option.toList_none,List.append_nil]
   exact ⟨by have:=ih.1;omega,fun e he=>by have:=ih.2 e he;exact ⟨this.1,by omega,by omega⟩⟩
  | some q=>
   rw [use_step hq]
   exact cntW_sm ih (h q (List.mem_of_getElem? hq)) ⟨by omega,by omega⟩
theorem alive_step {l:List PtM}{i:Nat}{q:PtM}{s:AlM}(h:l[i]?=some q):(l.take (i+1)).foldl aliveS s=aliveS ((l.take i).foldl aliveS s) q:=by
 rw [List.take_add_one,h,List.foldl_append];rfl
theorem aliveS_sm {b:Nat}{s:AlM}{q:PtM}(h:SmW b s.W)(hq:q.ok):SmW (b+2) (aliveS s q).W:=by
 have hm:SmW (b+2) s.W:=⟨by have:=h.1;omega,fun e he=>by have:=h.2 e he;exact ⟨this.1,by omega,by omega⟩⟩
 unfold aliveS
 split
 ·exact hm
 ·split
  ·exact cntW_sm h hq ⟨by omega,by omega⟩
  ·exact hm
structure AR (w wr:World)(m B:Nat)(v:Value)(s:AlM):Prop where
 bel:Below w.heap.size w wr
 mp:NMap wr 3 m s.W
 row:wr.ownsRow B 78 7 v s.left.length (s.left.flatMap PtM.cells)
 mB:m<B
 wm:w.heap.size≤m
 le:B≤wr.heap.size
theorem AR.kept {w wr w':World}{m B:Nat}{v:Value}{s:AlM}(h:AR w wr m B v s)(hb:Below wr.heap.size wr w'):AR w w' m B v s:=
 ⟨h.bel.trans (hb.mono h.bel.size),h.mp.below hb,own_keepN h.row hb,h.mB,h.wm,Nat.le_trans h.le hb.size⟩
theorem AR.counted {w wr w':World}{m B:Nat}{v:Value}{s:AlM}{W':List (Int×Int)}(h:AR w wr m B v s)(hm:NMap w' 3 m W')(hg:wr.grownBy w' (some m)):AR w w' m B v ⟨s.left,s.ended,W'⟩:=
 ⟨h.bel.grown hg h.bel.size (fun r e=>by cases e;exact h.wm),hm,own_keep h.row hg (fun b hb e=>by have:=(own_ge h.row b hb).1;have:=h.mB;omega),h.mB,h.wm,Nat.le_trans h.le hg.size⟩
theorem AR.more {w wr w':World}{m B:Nat}{v v':Value}{s:AlM}{q:PtM}{e:Bool}(h:AR w wr m B v s)(hr:w'.ownsRow B 78 7 v' (s.left.length+1) (s.left.flatMap PtM.cells++q.cells))(hg:wr.grownBy w' v.ownBlock):AR w w' m B v' ⟨s.left++[q],e,s.W⟩:=by
 have hge:=own_ge h.row
 have h1:=h.mB
 have h2:=h.wm
 refine ⟨?_,h.mp.grown hg (fun e=>by have:=(hge m e.symm).1;omega),?_,h.mB,h.wm,Nat.le_trans h.le hg.size⟩
 ·exact h.bel.grown hg h.bel.size (fun r e=>by have:=(hge r e).1;omega)
 ·simpa using hr
theorem AR.slice {w wr:World}{m B:Nat}{v:Value}{s:AlM}(h:AR w wr m B v s):∃A cp,v=.slice A s.left.length cp:=by obtain ⟨A,cp,e,_⟩:=own_typed h.row;exact ⟨A,cp,e⟩
theorem alive_any (l:List PtM)(n:Nat)(A:Option Addr)(cap:Nat)(w:World)(hl:l.length=n)(hn:n≤65536)(hok:∀p∈l,p.ok)(hr:Rd w 7 n A (l.flatMap PtM.cells)) :
  Calls Tryz.prog 113 #[.slice A n cap] w (ClP2 (aliveF l) w):=by
 have HR:=qd hr
 have HL:=qd hl
 have HOK:=qd hok
 have hmm:=@run_makeMap Tryz.prog
 have HM0:=qd (NMap.made w 3)
 have HB0:=qd (show Below w.heap.size w (w.alloc (.map #[] 0)) from (Below.refl _ _).alloc (Nat.le_refl _) _)
 have hs1:(w.alloc (.map #[] 0)).heap.size=w.heap.size+1:=by simp
 clear hr hl hok
 go_enter Tryz.func113,Tryz.ntmps113
 go_wp2_with fail
 generalize w.alloc (.map #[] 0)=w1 at HM0 HB0 hs1 ⊢
 obtain ⟨m,hm⟩:∃m,m=w.heap.size:=⟨_,rfl⟩
 rw [←hm] at HM0 ⊢
 have HMM:=qd hm
 clear hmm hm
 go_loopw [13] (fun iv wr=>∃i:Nat,iv=.int .i64 i∧i≤n∧Hid (NMap wr 3 m ((l.take i).foldl (fun W p=>cntW p 1 W) []))∧Hid (Below w.heap.size w wr)∧Hid (w1.heap.size≤wr.heap.size)) (fun iv _=>n-(intOf iv).toNat)
 case atStart=>exact ⟨0,rfl,Nat.zero_le _,HM0,HB0,Nat.le_refl _⟩
 case round=>
  clear HM0
  obtain ⟨i,rfl,hi,HM,HW,HZ⟩:=hrel
  by_cases hlt:i<n
  ·obtain ⟨q,hq⟩:∃q,l[i]?=some q:=⟨_,List.getElem?_eq_getElem (by have:=HL.out;omega)⟩
   obtain ⟨b,o,hA,hbl,hcell⟩:=(HR.out.below HW.out).one (fun _=>rfl) (by omega) (by omega)
   obtain ⟨c0,c1,c2,c3,c4,c5,c6⟩:=seven_cells hcell hq
   subst hA
   have hb2:=oneb wr (.cells #[.int .u8 q.kd,.int .i64 q.tQ,.int .i64 q.el,.int .u16 q.i.c,.int .u8 q.i.t,.int .u8 q.i.f,.int .u32 q.i.k] 78)
   have HC:=qd (count_any q 1 m (2*i) _ _ (HOK.out q (List.mem_of_getElem? hq)) ⟨by omega,by omega⟩ (HM.out.below hb2) (use_sm i HOK.out) (by omega))
   have HU:=qd (use_step hq)
   have HB2:=qd (HW.out.trans (hb2.mono HW.out.size))
   have HZ2:=qd (Nat.le_trans HZ.out hb2.size)
   clear hcell hq hb2
   go_wp2_with fail
   refine HC.out.mono ?_
   clear c0 c1 c2 c3 c4 c5 c6 hbl HC
   rintro e w3 ⟨rfl,hm3,hg3⟩
   rw [←HU.out] at hm3
   have HM3:=qd hm3
   have HB3:=qd (HB2.out.grown hg3 HB2.out.size (fun r e=>by cases e;exact Nat.le_of_eq HMM.out.symm))
   have HZ3:=qd (Nat.le_trans HZ2.out hg3.size)
   clear hm3 hg3
   go_wp2_with fail
   go_roundw
   case rel=>exact ⟨i+1,by go_num,by omega,HM3,HB3,HZ3⟩
   case measure=>simp [intOf];omega
  ·have HU:=qd (show (l.take i).foldl (fun W p=>cntW p 1 W) []=usesW l by rw [List.take_of_length_le (by have:=HL.out;omega)];rfl)
   rw [HU.out] at HM
   have HS0:=qd (show SmW (2*n) (usesW l) by have:=use_sm n HOK.out;rwa [List.take_of_length_le (Nat.le_of_eq HL.out)] at this)
   have HA0:=qd (show AR w wr m w1.heap.size (.slice none 0 0) ⟨[],false,usesW l⟩ from ⟨HW.out,HM.out,World.ownsRow_nil _ _ _ _,by have:=HMM.out;omega,Nat.le_of_eq HMM.out.symm,HZ.out⟩)
   clear HM HW HZ HB0 HU
   go_wp2_with fail
   clear hlt hi
   go_loopw [6,7,23] (fun sv ev iv wz=>∃(i:Nat) (s:AlM) (B:Option Addr) (c9:Nat),iv=.int .i64 i∧sv=.slice B s.left.length c9∧ev=.bool s.ended∧i≤n∧s.left.length≤i∧Hid (AR w wz m w1.heap.size (.slice B s.left.length c9) s)∧Hid ((l.take i).foldl aliveS ⟨[],false,usesW l⟩=s)∧Hid (SmW (2*n+2*i) s.W)) (fun _ _ iv _=>n-(intOf iv).toNat)
   case atStart=>exact ⟨0,⟨[],false,usesW l⟩,none,0,rfl,rfl,rfl,Nat.zero_le _,Nat.le_refl _,HA0,qd rfl,HS0⟩
   case round=>
    clear HA0 HS0
    rename World=>wz
    obtain ⟨i,s,B,c9,rfl,rfl,rfl,hi,hli,HA,HF,HS⟩:=hrel
    by_cases hlt:i<n
    ·obtain ⟨q,hq⟩:∃q,l[i]?=some q:=⟨_,List.getElem?_eq_getElem (by have:=HL.out;omega)⟩
     obtain ⟨b,o,hA,hbl,hcell⟩:=(HR.out.below HA.out.bel).one (fun _=>rfl) (by omega) (by omega)
     obtain ⟨c0,c1,c2,c3,c4,c5,c6⟩:=seven_cells hcell hq
     subst hA
     have HQO:=qd (HOK.out q (List.mem_of_getElem? hq))
     have HST:=qd (show (l.take (i+1)).foldl aliveS ⟨[],false,usesW l⟩=aliveS s q by rw [alive_step hq,HF.out])
     have HS2:=qd (show SmW (2*n+2*(i+1)) (aliveS s q).W from aliveS_sm HS.out HQO.out)
     clear hcell hq
     go_upto_region 12 with fail
     have hb2:=oneb wz (.cells #[.int .u8 q.kd,.int .i64 q.tQ,.int .i64 q.el,.int .u16 q.i.c,.int .u8 q.i.t,.int .u8 q.i.f,.int .u32 q.i.k] 78)
     have hk:=Bk.new wz 78 #[.int .u8 q.kd,.int .i64 q.tQ,.int .i64 q.el,.int .u16 q.i.c,.int .u8 q.i.t,.int .u8 q.i.f,.int .u32 q.i.k] (l:=q.cells) rfl
     generalize World.alloc wz _=w4 at hb2 hk ⊢
     have hvx:∀g,(Value.slice B s.left.length c9).ownBlock=some g→g<wz.heap.size:=fun g hg=>(own_ge HA.out.row g hg).2
     have hwz:=HA.out.le
     generalize wz.heap.size=xb at hk hvx hwz ⊢
     have HA:=qd (HA.out.kept hb2)
     have HVX:=qd hvx
     clear hvx hwz
     have HK:=qd hk
     clear c0 c1 c2 c3 c4 c5 c6 hbl hb2 hk
     have y0:=HK.out.cell 0 rfl
     have y1:=HK.out.cell 1 rfl
     have y2:=HK.out.cell 2 rfl
     have y3:=HK.out.cell 3 rfl
     have y4:=HK.out.cell 4 rfl
     have y5:=HK.out.cell 5 rfl
     have y6:=HK.out.cell 6 rfl
     have yl:=HK.out.lt
     obtain ⟨left,en,W⟩:=s
     simp only at hli ⊢
     obtain ⟨u,hu⟩:∃u,u=gW q.tQ W:=⟨_,rfl⟩
     have Hu:=qd hu
     have t1:=HQO.out.to1
     have t2:=HQO.out.to2
     have HM:=qd HA.out.mp
     simp only at HM
     have hlk:=NMap.look Tryz.underlying3 Tryz.underlying265 (Tryz.zeroValue3 _) HM.out t1 t2
     rw [show (lk q.tQ W).getD 0=u from hu.symm] at hlk
     by_cases h1:q.kd=1
     ·have e1:((q.kd:Int)==1)=true:=by rw [h1];rfl
      have e2:((q.kd:Int) != 1)=false:=by rw [h1];rfl
      by_cases h0:u=0
      ·have e0:(u==0)=true:=by rw [h0];rfl
       have HV:=qd (show aliveS ⟨left,en,W⟩ q=⟨left,en,W⟩ by unfold aliveS;rw [if_pos ⟨h1,by rw [←Hu.out];exact h0⟩])
       rw [HV.out] at HST HS2
       clear h1 h0 hu
       go_wp2_with fail
       go_roundw
       case rel=>exact ⟨i+1,⟨left,en,W⟩,B,c9,by go_num,rfl,rfl,by omega,by simp only;omega,HA,HST,HS2⟩
       case measure=>simp [intOf];omega
      ·have e0:(u==0)=false:=by rw [beq_eq_false_iff_ne];exact h0
       have HV:=qd (show aliveS ⟨left,en,W⟩ q=⟨left++[q],endsB q,W⟩ by unfold aliveS;rw [if_neg (fun h=>h0 (by rw [Hu.out];exact h.2)),if_neg (fun h=>h.2 h1)])
       rw [HV.out] at HST HS2
       clear h1 h0 hu
       cases en with
       | true=>
        go_wp2_with (at_builtin;refine append_one rfl (.tmp 46) (.tmp 48) 67 78 rfl _ 7 32 infoPart Tryz.underlying67 rfl (by decide) (by decide) w1.heap.size _ left.length (left.flatMap PtM.cells) rfl (HA.out.kept (oneb w4 (.cells #[.int .u8 q.kd,.int .i64 q.tQ,.int .i64 q.el,.int .u16 q.i.c,.int .u8 q.i.t,.int .u8 q.i.f,.int .u32 q.i.k] 78))).row w4.heap.size [.int .u8 q.kd,.int .i64 q.tQ,.int .i64 q.el,.int .u16 q.i.c,.int .u8 q.i.t,.int .u8 q.i.f,.int .u32 q.i.k] rfl rfl (Bk.new w4 _ _ rfl) (pt_one q) (by omega) (HA.out.kept (oneb w4 (.cells #[.int .u8 q.kd,.int .i64 q.tQ,.int .i64 q.el,.int .u16 q.i.c,.int .u8 q.i.t,.int .u8 q.i.f,.int .u32 q.i.k] 78))).le ?_;intro v' w5 hown hgrow _;have HA5:=qd ((HA.out.kept (oneb w4 (.cells #[.int .u8 q.kd,.int .i64 q.tQ,.int .i64 q.el,.int .u16 q.i.c,.int .u8 q.i.t,.int .u8 q.i.f,.int .u32 q.i.k] 78))).more (q:=q) (e:=endsB q) hown hgrow);have hk5:=(HK.out.kept (oneb w4 (.cells #[.int .u8 q.kd,.int .i64 q.tQ,.int .i64 q.el,.int .u16 q.i.c,.int .u8 q.i.t,.int .u8 q.i.f,.int .u32 q.i.k] 78))).grown hgrow (fun e=>by have:=HVX.out _ e.symm;omega);clear y0 y1 y2 y3 y4 y5 y6 yl hown hgrow;obtain ⟨A7,c7,hv7⟩:=HA5.out.slice;obtain ⟨n7,hn7⟩:∃n7,n7=(⟨left++[q],endsB q,W⟩:AlM).left.length:=⟨_,rfl⟩;rw [←hn7] at hv7;subst hv7;have HN7:=qd hn7;have y0:=hk5.cell 0 rfl;have y1:=hk5.cell 1 rfl;have y2:=hk5.cell 2 rfl;have y3:=hk5.cell 3 rfl;have y4:=hk5.cell 4 rfl;have y5:=hk5.cell 5 rfl;have y6:=hk5.cell 6 rfl;have yl:=hk5.lt;clear hk5 hn7)
        refine (ends_any q _ HQO.out).mono ?_
        clear y0 y1 y2 y3 y4 y5 y6 yl
        rintro e w6 ⟨rfl,hb6⟩
        rw [HN7.out] at HA5
        have HA6:=qd (HA5.out.kept hb6)
        clear hb6
        go_wp2_with fail
        go_roundw
        case rel=>exact ⟨i+1,⟨left++[q],endsB q,W⟩,A7,c7,by go_num,by rw [HN7.out],rfl,by omega,by simp only [List.length_append,List.length_cons,List.length_nil];omega,HA6,HST,HS2⟩
        case measure=>simp [intOf];omega
       | false=>
        go_wp2_with (at_builtin;refine append_one rfl (.tmp 46) (.tmp 48) 67 78 rfl _ 7 32 infoPart Tryz.underlying67 rfl (by decide) (by decide) w1.heap.size _ left.length (left.flatMap PtM.cells) rfl (HA.out.kept (oneb w4 (.cells #[.int .u8 q.kd,.int .i64 q.tQ,.int .i64 q.el,.int .u16 q.i.c,.int .u8 q.i.t,.int .u8 q.i.f,.int .u32 q.i.k] 78))).row w4.heap.size [.int .u8 q.kd,.int .i64 q.tQ,.int .i64 q.el,.int .u16 q.i.c,.int .u8 q.i.t,.int .u8 q.i.f,.int .u32 q.i.k] rfl rfl (Bk.new w4 _ _ rfl) (pt_one q) (by omega) (HA.out.kept (oneb w4 (.cells #[.int .u8 q.kd,.int .i64 q.tQ,.int .i64 q.el,.int .u16 q.i.c,.int .u8 q.i.t,.int .u8 q.i.f,.int .u32 q.i.k] 78))).le ?_;intro v' w5 hown hgrow _;have HA5:=qd ((HA.out.kept (oneb w4 (.cells #[.int .u8 q.kd,.int .i64 q.tQ,.int .i64 q.el,.int .u16 q.i.c,.int .u8 q.i.t,.int .u8 q.i.f,.int .u32 q.i.k] 78))).more (q:=q) (e:=endsB q) hown hgrow);have hk5:=(HK.out.kept (oneb w4 (.cells #[.int .u8 q.kd,.int .i64 q.tQ,.int .i64 q.el,.int .u16 q.i.c,.int .u8 q.i.t,.int .u8 q.i.f,.int .u32 q.i.k] 78))).grown hgrow (fun e=>by have:=HVX.out _ e.symm;omega);clear y0 y1 y2 y3 y4 y5 y6 yl hown hgrow;obtain ⟨A7,c7,hv7⟩:=HA5.out.slice;obtain ⟨n7,hn7⟩:∃n7,n7=(⟨left++[q],endsB q,W⟩:AlM).left.length:=⟨_,rfl⟩;rw [←hn7] at hv7;subst hv7;have HN7:=qd hn7;have y0:=hk5.cell 0 rfl;have y1:=hk5.cell 1 rfl;have y2:=hk5.cell 2 rfl;have y3:=hk5.cell 3 rfl;have y4:=hk5.cell 4 rfl;have y5:=hk5.cell 5 rfl;have y6:=hk5.cell 6 rfl;have yl:=hk5.lt;clear hk5 hn7)
        refine (ends_any q _ HQO.out).mono ?_
        clear y0 y1 y2 y3 y4 y5 y6 yl
        rintro e w6 ⟨rfl,hb6⟩
        rw [HN7.out] at HA5
        have HA6:=qd (HA5.out.kept hb6)
        clear hb6
        go_wp2_with fail
        go_roundw
        case rel=>exact ⟨i+1,⟨left++[q],endsB q,W⟩,A7,c7,by go_num,by rw [HN7.out],rfl,by omega,by simp only [List.length_append,List.length_cons,List.length_nil];omega,HA6,HST,HS2⟩
        case measure=>simp [intOf];omega
     ·have e1:((q.kd:Int)==1)=false:=by rw [beq_eq_false_iff_ne];omega
      have e2:((q.kd:Int) != 1)=true:=by rw [bne_iff_ne];omega
      cases en with
      | true=>
       have HV:=qd (show aliveS ⟨left,true,W⟩ q=⟨left,true,cntW q (-1) W⟩ by unfold aliveS;rw [if_neg (fun h=>h1 h.1),if_pos ⟨rfl,h1⟩])
       have HC:=qd (count_any q (-1) m (2*n+2*i) W w4 HQO.out ⟨by omega,by omega⟩ HM.out HS.out (by omega))
       rw [HV.out] at HST HS2
       clear h1 hu
       go_wp2_with fail
       refine HC.out.mono ?_
       rintro e w5 ⟨rfl,hm5,hg5⟩
       have HA5:=qd (HA.out.counted hm5 hg5)
       clear hm5 hg5 y0 y1 y2 y3 y4 y5 y6 yl
       go_wp2_with fail
       go_roundw
       case rel=>exact ⟨i+1,⟨left,true,cntW q (-1) W⟩,B,c9,by go_num,rfl,rfl,by omega,by simp only;omega,HA5,HST,HS2⟩
       case measure=>simp [intOf];omega
      | false=>
       have HV:=qd (show aliveS ⟨left,false,W⟩ q=⟨left++[q],endsB q,W⟩ by unfold aliveS;rw [if_neg (fun h=>h1 h.1),if_neg (fun h=>by cases h.1)])
       rw [HV.out] at HST HS2
       clear h1 hu
       go_wp2_with (at_builtin;refine append_one rfl (.tmp 46) (.tmp 48) 67 78 rfl _ 7 32 infoPart Tryz.underlying67 rfl (by decide) (by decide) w1.heap.size _ left.length (left.flatMap PtM.cells) rfl (HA.out.kept (oneb w4 (.cells #[.int .u8 q.kd,.int .i64 q.tQ,.int .i64 q.el,.int .u16 q.i.c,.int .u8 q.i.t,.int .u8 q.i.f,.int .u32 q.i.k] 78))).row w4.heap.size [.int .u8 q.kd,.int .i64 q.tQ,.int .i64 q.el,.int .u16 q.i.c,.int .u8 q.i.t,.int .u8 q.i.f,.int .u32 q.i.k] rfl rfl (Bk.new w4 _ _ rfl) (pt_one q) (by omega) (HA.out.kept (oneb w4 (.cells #[.int .u8 q.kd,.int .i64 q.tQ,.int .i64 q.el,.int .u16 q.i.c,.int .u8 q.i.t,.int .u8 q.i.f,.int .u32 q.i.k] 78))).le ?_;intro v' w5 hown hgrow _;have HA5:=qd ((HA.out.kept (oneb w4 (.cells #[.int .u8 q.kd,.int .i64 q.tQ,.int .i64 q.el,.int .u16 q.i.c,.int .u8 q.i.t,.int .u8 q.i.f,.int .u32 q.i.k] 78))).more (q:=q) (e:=endsB q) hown hgrow);have hk5:=(HK.out.kept (oneb w4 (.cells #[.int .u8 q.kd,.int .i64 q.tQ,.int .i64 q.el,.int .u16 q.i.c,.int .u8 q.i.t,.int .u8 q.i.f,.int .u32 q.i.k] 78))).grown hgrow (fun e=>by have:=HVX.out _ e.symm;omega);clear y0 y1 y2 y3 y4 y5 y6 yl hown hgrow;obtain ⟨A7,c7,hv7⟩:=HA5.out.slice;obtain ⟨n7,hn7⟩:∃n7,n7=(⟨left++[q],endsB q,W⟩:AlM).left.length:=⟨_,rfl⟩;rw [←hn7] at hv7;subst hv7;have HN7:=qd hn7;have y0:=hk5.cell 0 rfl;have y1:=hk5.cell 1 rfl;have y2:=hk5.cell 2 rfl;have y3:=hk5.cell 3 rfl;have y4:=hk5.cell 4 rfl;have y5:=hk5.cell 5 rfl;have y6:=hk5.cell 6 rfl;have yl:=hk5.lt;clear hk5 hn7)
       refine (ends_any q _ HQO.out).mono ?_
       clear y0 y1 y2 y3 y4 y5 y6 yl
       rintro e w6 ⟨rfl,hb6⟩
       rw [HN7.out] at HA5
       have HA6:=qd (HA5.out.kept hb6)
       clear hb6
       go_wp2_with fail
       go_roundw
       case rel=>exact ⟨i+1,⟨left++[q],endsB q,W⟩,A7,c7,by go_num,by rw [HN7.out],rfl,by omega,by simp only [List.length_append,List.length_cons,List.length_nil];omega,HA6,HST,HS2⟩
       case measure=>simp [intOf];omega
    ·have HE:=qd (show s.left=aliveF l by unfold aliveF;rw [←HF.out,List.take_of_length_le (by have:=HL.out;omega)])
     go_wp2_with fail
     go_ret
     rw [←HE.out]
     exact ⟨_,_,rfl,own_base HA.out.row (by have:=HA.out.wm;have:=HA.out.mB;omega),HA.out.bel⟩
end Go.Proofs.YtcnebdjhhfnmoaaGreatDoor.Ju
namespace Go.Proofs.YtcnebdjhhfnmoaaGreatDoor.Ju
open Go.RowKit Go.Maps Go.WideMaps Go.WideElems Go.ChangeMaps
theorem rd_drop {w:World}{n b o k:Nat}{l:List PtM}(h:Rd w 7 n (some ⟨b,o,none⟩) (l.flatMap PtM.cells))(hk:k≤n):Rd w 7 (n-k) (some ⟨b,o+k*7,none⟩) ((l.drop k).flatMap PtM.cells):=by
 have hl:=h.len
 rw [flatz_len PtM.cells 7 (fun _=>rfl)] at hl
 refine ⟨by rw [flatz_len PtM.cells 7 (fun _=>rfl),List.length_drop];omega,?_⟩
 by_cases h0:n-k=0
 ·exact Or.inl h0
 ·obtain ⟨b',o',e,hb,hc⟩:=h.pos (by omega)
  cases e
  refine Or.inr ⟨b,o+k*7,rfl,hb,fun j u hu=>?_⟩
  rw [Nat.add_assoc]
  refine hc _ _ ?_
  have e:l.flatMap PtM.cells=(l.take k).flatMap PtM.cells++(l.drop k).flatMap PtM.cells:=by rw [←List.flatMap_append,List.take_append_drop]
  rw [e,List.getElem?_append_right (by rw [flatz_len PtM.cells 7 (fun _=>rfl),List.length_take];omega),flatz_len PtM.cells 7 (fun _=>rfl),List.length_take]
  rw [show k*7+j-min k l.length*7=j from by rw [Nat.min_eq_left (by omega)];omega]
  exact hu
structure VR (w wr:World)(v:Value)(left:List PtM):Prop where
 bel:Below w.heap.size w wr
 row:wr.ownsRow w.heap.size 78 7 v left.length (left.flatMap PtM.cells)
theorem VR.kept {w wr w':World}{v:Value}{s:List PtM}(h:VR w wr v s)(hb:Below wr.heap.size wr w'):VR w w' v s:=⟨h.bel.trans (hb.mono h.bel.size),own_keepN h.row hb⟩
theorem VR.more {w wr w':World}{v v':Value}{s:List PtM}{q:PtM}(h:VR w wr v s)(hr:w'.ownsRow w.heap.size 78 7 v' (s.length+1) (s.flatMap PtM.cells++q.cells))(hg:wr.grownBy w' v.ownBlock):VR w w' v' (s++[q]):=
 ⟨h.bel.grown hg h.bel.size (fun r e=>(own_ge h.row r e).1),by simpa using hr⟩
theorem VR.slice {w wr:World}{v:Value}{s:List PtM}(h:VR w wr v s):∃A cp,v=.slice A s.length cp:=by obtain ⟨A,cp,e,_⟩:=own_typed h.row;exact ⟨A,cp,e⟩
theorem leaving_any (l:List PtM)(n:Nat)(A:Option Addr)(cap:Nat)(w:World)(hl:l.length=n)(hn:n≤65536)(hnc:n≤cap)(hr:Rd w 7 n A (l.flatMap PtM.cells)) :
  Calls Tryz.prog 112 #[.slice A n cap] w (ClP2 (leavF l) w):=by
 have HR:=qd hr
 have HL:=qd hl
 clear hr hl
 go_enter Tryz.func112,Tryz.ntmps112
 go_wp2_with fail
 go_loopw [3,8] (fun sv iv wz=>∃(i:Nat) (s:List PtM) (B:Option Addr) (c9:Nat),iv=.int .i64 i∧sv=.slice B s.length c9∧i≤n∧s.length≤i∧Hid (VR w wz (.slice B s.length c9) s)∧Hid (s++leavF (l.drop i)=leavF l)) (fun _ iv _=>n-(intOf iv).toNat)
 case atStart=>exact ⟨0,[],none,0,rfl,rfl,Nat.zero_le _,Nat.le_refl _,⟨Below.refl _ _,World.ownsRow_nil _ _ _ _⟩,qd rfl⟩
 case round=>
  rename World=>wz
  obtain ⟨i,s,B,c9,rfl,rfl,hi,hli,HA,HF⟩:=hrel
  by_cases hlt:i<n
  ·obtain ⟨q,hq⟩:∃q,l[i]?=some q:=⟨_,List.getElem?_eq_getElem (by have:=HL.out;omega)⟩
   obtain ⟨b,o,hA,hbl,hcell⟩:=(HR.out.below HA.out.bel).one (fun _=>rfl) (by omega) (by omega)
   obtain ⟨c0,c1,c2,c3,c4,c5,c6⟩:=seven_cells hcell hq
   subst hA
   have hdr:leavF (l.drop i)=if q.kd=4∧cnB q.tQ (l.drop (i+1))=true then leavF (l.drop (i+1)) else q::leavF (l.drop (i+1)):=by
    obtain ⟨h1,h2⟩:=List.getElem?_eq_some_iff.1 hq
    rw [List.drop_eq_getElem_cons h1,h2];rfl
   have HD:=qd hdr
   clear hcell hq hdr
   go_upto_region 5 with fail
   have hb2:=oneb wz (.cells #[.int .u8 q.kd,.int .i64 q.tQ,.int .i64 q.el,.int .u16 q.i.c,.int .u8 q.i.t,.int .u8 q.i.f,.int .u32 q.i.k] 78)
   have hk:=Bk.new wz 78 #[.int .u8 q.kd,.int .i64 q.tQ,.int .i64 q.el,.int .u16 q.i.c,.int .u8 q.i.t,.int .u8 q.i.f,.int .u32 q.i.k] (l:=q.cells) rfl
   generalize World.alloc wz _=w4 at hb2 hk ⊢
   have hvx:∀g,(Value.slice B s.length c9).ownBlock=some g→g<wz.heap.size:=fun g hg=>(own_ge HA.out.row g hg).2
   generalize wz.heap.size=xb at hk hvx ⊢
   have HA:=qd (HA.out.kept hb2)
   have HVX:=qd hvx
   have HK:=qd hk
   clear c0 c1 c2 c3 c4 c5 c6 hbl hb2 hk hvx
   have HmkS:Hid (∀W,Below w4.heap.size w4 W→(fun W=>W.cell? ⟨xb,0,none⟩=some (.int .u8 q.kd)∧W.cell? ⟨xb,1,none⟩=some (.int .i64 q.tQ)∧xb<W.heap.size) W):=qd (fun W h=>⟨(HK.out.kept h).cell 0 rfl,(HK.out.kept h).cell 1 rfl,(HK.out.kept h).lt⟩)
   by_cases h4:q.kd=4
   ·have e4:((q.kd:Int) != 4)=false:=by rw [h4];rfl
    have e5:IntKind.i64.wrap ((i:Int)+1)=((i+1:Nat):Int):=by rw [IntKind.wrap_i64];omega
    have hs0:(0:Int)≤(i:Int)+1:=by omega
    have hs1:(i:Int)+1≤(n:Int):=by omega
    obtain ⟨bb,hbb⟩:∃bb,bb=cnB q.tQ (l.drop (i+1)):=⟨_,rfl⟩
    have HBB:=qd hbb
    have HV:=qd (show leavF (l.drop i)=if bb=true then leavF (l.drop (i+1)) else q::leavF (l.drop (i+1)) by rw [HD.out,hbb];simp [h4])
    have HRW:=qd (HR.out.below HA.out.bel)
    clear h4 hbb
    obtain ⟨AD,hAD⟩:∃AD:Option Addr,(if cap=i+1 then some ⟨b,o,none⟩ else some ⟨b,o+(i+1)*7,none⟩)=AD:=⟨_,rfl⟩
    have HAD:=qd hAD
    have HC:=qd (fun W (h:Below w4.heap.size w4 W)=>comes_any (l.drop (i+1)) (n-(i+1)) AD (cap-(i+1)) q.tQ W (by rw [List.length_drop,HL.out]) (by omega) (by
     rw [←HAD.out]
     split
     ·rw [show n-(i+1)=0 from by omega,List.drop_of_length_le (by have:=HL.out;omega)];exact Rd.nil _ _ _
     ·exact rd_drop (HRW.out.below h) hlt))
    rw [←HBB.out] at HC
    refine wp_region_held_drew (S:=(fun W=>W.cell? ⟨xb,0,none⟩=some (.int .u8 q.kd)∧W.cell? ⟨xb,1,none⟩=some (.int .i64 q.tQ)∧xb<W.heap.size)) (by kernel_rfl) ?_ (fun hHeld0=>?_)
    ·exact HmkS.out _ (Below.refl _ _).drew
    refine tkH (i:=0) (s:=hHeld0) (h:=?_)
    try simp only [Act.put,pA,pB,pC]
    refine tkH (i:=1) (s:=hHeld0) (h:=?_)
    try simp only [Act.put,pA,pB,pC]
    refine tkH (i:=2) (s:=hHeld0) (h:=?_)
    try simp only [Act.put,pA,pB,pC]
    refine tkH (i:=3) (s:=hHeld0) (h:=?_)
    try simp only [Act.put,pA,pB,pC]
    refine tkH (i:=4) (s:=hHeld0) (h:=?_)
    try simp only [Act.put,pA,pB,pC]
    refine tkH (i:=5) (s:=hHeld0) (h:=?_)
    try simp only [Act.put,pA,pB,pC]
    refine tkH (i:=6) (s:=hHeld0) (h:=?_)
    try simp only [Act.put,pA,pB,pC]
    refine tkH (i:=7) (s:=hHeld0) (h:=?_)
    try simp only [Act.put,pA,pB,pC]
    refine tkH (i:=8) (s:=hHeld0) (h:=?_)
    try simp only [Act.put,pA,pB,pC]
    refine tkH (i:=9) (s:=hHeld0) (h:=?_)
    try simp only [Act.put,pA,pB,pC]
    refine wpAnyH_ready (rs:=[10]) (by kernel_rfl) (by simp) ?_
    refine crH (k:=fun K hK=>?_) (r:=?_)
    ·go_simp
     refine (HC.out _ (Below.refl _ _).drew).mono ?_
     rintro e vh1 ⟨rfl,hbb⟩
     have HBn:=qd (show Below w4.heap.size w4 vh1 from (show Below w4.heap.size w4 w4.drew from (Below.refl _ _).drew).trans hbb)
     refine hK.out _ _ (HmkS.out _ HBn.out) (fun hHeld1=>?_)
     clear hK K hbb hHeld0
     try simp only [Act.put,pA,pB,pC]
     refine tkH (i:=11) (s:=hHeld1) (h:=?_)
     try simp only [Act.put,pA,pB,pC]
     refine tkH (i:=12) (s:=hHeld1) (h:=?_)
     try simp only [Act.put,pA,pB,pC]
     refine wpAnyH_done (by kernel_rfl) ?_ _
     rename World=>w5
     clear hHeld1
     have HA5:=qd (HA.out.kept HBn.out)
     have hk5:=HK.out.kept HBn.out
     have y0:=hk5.cell 0 rfl
     have y1:=hk5.cell 1 rfl
     have y2:=hk5.cell 2 rfl
     have y3:=hk5.cell 3 rfl
     have y4:=hk5.cell 4 rfl
     have y5:=hk5.cell 5 rfl
     have y6:=hk5.cell 6 rfl
     have yl:=hk5.lt
     have HK5:=qd hk5
     have HV5:=qd (show w4.heap.size≤w5.heap.size from HBn.out.size)
     have HX5:=qd (show xb<w4.heap.size from HK.out.lt)
     clear hk5
     cases bb with
     | true=>
      have HFn:=qd (show s++leavF (l.drop (i+1))=leavF l by rw [←HF.out,HV.out,if_pos rfl])
      clear y0 y1 y2 y3 y4 y5 y6 yl
      go_wp2_with fail
      go_roundw
      case rel=>exact ⟨i+1,s,B,c9,by go_num,rfl,by omega,by omega,HA5,HFn⟩
      case measure=>simp [intOf];omega
     | false=>
      have HFn:=qd (show (s++[q])++leavF (l.drop (i+1))=leavF l by rw [←HF.out,HV.out,if_neg (by decide),List.append_assoc];rfl)
      go_wp2_with (at_builtin;refine append_one rfl (.tmp 26) (.tmp 28) 67 78 rfl _ 7 32 infoPart Tryz.underlying67 rfl (by decide) (by decide) w.heap.size _ s.length (s.flatMap PtM.cells) rfl (HA5.out.kept (oneb w5 (.cells #[.int .u8 q.kd,.int .i64 q.tQ,.int .i64 q.el,.int .u16 q.i.c,.int .u8 q.i.t,.int .u8 q.i.f,.int .u32 q.i.k] 78))).row w5.heap.size [.int .u8 q.kd,.int .i64 q.tQ,.int .i64 q.el,.int .u16 q.i.c,.int .u8 q.i.t,.int .u8 q.i.f,.int .u32 q.i.k] rfl rfl (Bk.new w5 _ _ rfl) (pt_one q) (by omega) (HA5.out.kept (oneb w5 (.cells #[.int .u8 q.kd,.int .i64 q.tQ,.int .i64 q.el,.int .u16 q.i.c,.int .u8 q.i.t,.int .u8 q.i.f,.int .u32 q.i.k] 78))).bel.size ?_;intro v' w6 hown hgrow _;have HA6:=qd ((HA5.out.kept (oneb w5 (.cells #[.int .u8 q.kd,.int .i64 q.tQ,.int .i64 q.el,.int .u16 q.i.c,.int .u8 q.i.t,.int .u8 q.i.f,.int .u32 q.i.k] 78))).more (q:=q) hown hgrow);clear y0 y1 y2 y3 y4 y5 y6 yl hown hgrow;obtain ⟨A7,c7,hv7⟩:=HA6.out.slice;obtain ⟨n7,hn7⟩:∃n7,n7=(s++[q]).length:=⟨_,rfl⟩;rw [←hn7] at hv7;subst hv7;have HN7:=qd hn7;clear hn7)
      rw [HN7.out] at HA6
      go_roundw
      case rel=>exact ⟨i+1,s++[q],A7,c7,by go_num,by rw [HN7.out],by omega,by simp only [List.length_append,List.length_cons,List.length_nil];omega,HA6,HFn⟩
      case measure=>simp [intOf];omega
    exact AllReadyH.nil
   ·have e4:((q.kd:Int) != 4)=true:=by rw [bne_iff_ne];omega
    have HD4:=qd h4
    clear h4
    refine wp_region_held_drew (S:=(fun W=>W.cell? ⟨xb,0,none⟩=some (.int .u8 q.kd)∧W.cell? ⟨xb,1,none⟩=some (.int .i64 q.tQ)∧xb<W.heap.size)) (by kernel_rfl) ?_ (fun hHeld0=>?_)
    ·exact HmkS.out _ (Below.refl _ _).drew
    refine tkH (i:=0) (s:=hHeld0) (h:=?_)
    try simp only [Act.put,pA,pB,pC]
    refine tkH (i:=1) (s:=hHeld0) (h:=?_)
    try simp only [Act.put,pA,pB,pC]
    refine tkH (i:=2) (s:=hHeld0) (h:=?_)
    try simp only [Act.put,pA,pB,pC]
    refine tkH (i:=3) (s:=hHeld0) (h:=?_)
    try simp only [Act.put,pA,pB,pC]
    refine tkH (i:=4) (v:=undef) (y:=Or.inr ⟨by rfl,rfl⟩) (s:=hHeld0) (h:=?_)
    try simp only [Act.put,pA,pB,pC]
    refine tkH (i:=5) (v:=undef) (y:=Or.inr ⟨by rfl,rfl⟩) (s:=hHeld0) (h:=?_)
    try simp only [Act.put,pA,pB,pC]
    refine tkH (i:=6) (v:=undef) (y:=Or.inr ⟨by rfl,rfl⟩) (s:=hHeld0) (h:=?_)
    try simp only [Act.put,pA,pB,pC]
    refine tkH (i:=7) (v:=undef) (y:=Or.inr ⟨by rfl,rfl⟩) (s:=hHeld0) (h:=?_)
    try simp only [Act.put,pA,pB,pC]
    refine tkH (i:=8) (v:=undef) (y:=Or.inr ⟨by rfl,rfl⟩) (s:=hHeld0) (h:=?_)
    try simp only [Act.put,pA,pB,pC]
    refine tkH (i:=9) (v:=undef) (y:=Or.inr ⟨by rfl,rfl⟩) (s:=hHeld0) (h:=?_)
    try simp only [Act.put,pA,pB,pC]
    refine tkH (i:=10) (v:=undef) (y:=Or.inr ⟨by rfl,rfl⟩) (s:=hHeld0) (h:=?_)
    try simp only [Act.put,pA,pB,pC]
    refine tkH (i:=11) (v:=undef) (y:=Or.inr ⟨by rfl,rfl⟩) (s:=hHeld0) (h:=?_)
    try simp only [Act.put,pA,pB,pC]
    refine tkH (i:=12) (s:=hHeld0) (h:=?_)
    try simp only [Act.put,pA,pB,pC]
    refine wpAnyH_done (by kernel_rfl) ?_ _
    clear hHeld0
    have HBn:=qd (show Below w4.heap.size w4 w4.drew from (Below.refl _ _).drew)
    generalize w4.drew=w5 at HBn ⊢
    have HA5:=qd (HA.out.kept HBn.out)
    have hk5:=HK.out.kept HBn.out
    have y0:=hk5.cell 0 rfl
    have y1:=hk5.cell 1 rfl
    have y2:=hk5.cell 2 rfl
    have y3:=hk5.cell 3 rfl
    have y4:=hk5.cell 4 rfl
    have y5:=hk5.cell 5 rfl
    have y6:=hk5.cell 6 rfl
    have yl:=hk5.lt
    have HK5:=qd hk5
    have HV5:=qd (show w4.heap.size≤w5.heap.size from HBn.out.size)
    have HX5:=qd (show xb<w4.heap.size from HK.out.lt)
    clear hk5
    have HFn:=qd (show (s++[q])++leavF (l.drop (i+1))=leavF l by rw [←HF.out,HD.out,if_neg (fun h=>HD4.out h.1),List.append_assoc];rfl)
    go_wp2_with (at_builtin;refine append_one rfl (.tmp 26) (.tmp 28) 67 78 rfl _ 7 32 infoPart Tryz.underlying67 rfl (by decide) (by decide) w.heap.size _ s.length (s.flatMap PtM.cells) rfl (HA5.out.kept (oneb w5 (.cells #[.int .u8 q.kd,.int .i64 q.tQ,.int .i64 q.el,.int .u16 q.i.c,.int .u8 q.i.t,.int .u8 q.i.f,.int .u32 q.i.k] 78))).row w5.heap.size [.int .u8 q.kd,.int .i64 q.tQ,.int .i64 q.el,.int .u16 q.i.c,.int .u8 q.i.t,.int .u8 q.i.f,.int .u32 q.i.k] rfl rfl (Bk.new w5 _ _ rfl) (pt_one q) (by omega) (HA5.out.kept (oneb w5 (.cells #[.int .u8 q.kd,.int .i64 q.tQ,.int .i64 q.el,.int .u16 q.i.c,.int .u8 q.i.t,.int .u8 q.i.f,.int .u32 q.i.k] 78))).bel.size ?_;intro v' w6 hown hgrow _;have HA6:=qd ((HA5.out.kept (oneb w5 (.cells #[.int .u8 q.kd,.int .i64 q.tQ,.int .i64 q.el,.int .u16 q.i.c,.int .u8 q.i.t,.int .u8 q.i.f,.int .u32 q.i.k] 78))).more (q:=q) hown hgrow);clear y0 y1 y2 y3 y4 y5 y6 yl hown hgrow;obtain ⟨A7,c7,hv7⟩:=HA6.out.slice;obtain ⟨n7,hn7⟩:∃n7,n7=(s++[q]).length:=⟨_,rfl⟩;rw [←hn7] at hv7;subst hv7;have HN7:=qd hn7;clear hn7)
    rw [HN7.out] at HA6
    go_roundw
    case rel=>exact ⟨i+1,s++[q],A7,c7,by go_num,by rw [HN7.out],by omega,by simp only [List.length_append,List.length_cons,List.length_nil];omega,HA6,HFn⟩
    case measure=>simp [intOf];omega
  ·go_wp2_with fail
   go_ret
   have hE:s=leavF l:=by rw [←HF.out,List.drop_of_length_le (by have:=HL.out;omega)];simp [leavF]
   rw [←hE]
   exact ⟨_,_,rfl,HA.out.row,HA.out.bel⟩
end Go.Proofs.YtcnebdjhhfnmoaaGreatDoor.Ju
namespace Go.Proofs.YtcnebdjhhfnmoaaGreatDoor.Ju
open Go.RowKit Go.Maps Go.WideMaps Go.WideElems Go.ChangeMaps
def lenOf:Value→Nat
 | .slice _ n _=>n
 | _=>0
theorem rd_nil {w:World}{z n:Nat}{A:Option Addr}{xs:List Value}(h:Rd w z n A xs)(hA:A=none):n=0:=by
 rcases h.at_ with e|⟨b,o,e,_⟩
 ·exact e
 ·rw [hA] at e;cases e
theorem below_own {w w':World}{B N e z n:Nat}{v:Value}{xs:List Value}(h:w.ownsRow B e z v n xs)(hg:w.grownBy w' v.ownBlock)(hB:N≤B)(hw:N≤w.heap.size):Below N w w':=
 ⟨hg.os,hg.tape,hg.output,hg.size,fun i hi=>hg.block i (by omega) (fun e=>by have:=(own_ge h i e.symm).1;omega)⟩
theorem tidy_any (l:List PtM)(n:Nat)(A:Option Addr)(cap:Nat)(w:World)(hl:l.length=n)(hn:n≤65536)(hok:∀p∈l,p.ok)(hr:Rd w 7 n A (l.flatMap PtM.cells)) :
  Calls Tryz.prog 66 #[.slice A n cap] w (ClP2 (tidyF l) w):=by
 have HCl:=qd (clone_any l n A cap w hl hr hn (rd_nil hr))
 have HL:=qd hl
 have HOK:=qd hok
 clear hr hl hok
 go_enter Tryz.func66,Tryz.ntmps66
 go_wp2_with fail
 refine HCl.out.mono ?_
 clear HCl
 rintro e w1 ⟨A1,c1,rfl,hr1,hb1⟩
 have HR1:=qd hr1
 have HB1:=qd hb1
 clear hr1 hb1
 go_wp2_with fail
 go_loopw [3] (fun v wr=>∃(s:List PtM) (A2:Option Addr) (c2 B:Nat),v=.slice A2 s.length c2∧s.length≤n∧w.heap.size≤B∧Hid (wr.ownsRow B 78 7 (.slice A2 s.length c2) s.length (s.flatMap PtM.cells))∧Hid (Below w.heap.size w wr)∧Hid (∀p∈s,p.ok)∧Hid (tidyF s=tidyF l)) (fun v _=>lenOf v)
 case atStart=>exact ⟨l,A1,c1,w.heap.size,rfl,Nat.le_of_eq HL.out,Nat.le_refl _,HR1,HB1,HOK,qd rfl⟩
 case round=>
  clear HR1 HB1 HOK
  obtain ⟨s,A2,c2,B,rfl,hsn,hB,HR,HB,HOK,HT⟩:=hrel
  obtain ⟨m,hm⟩:∃m,m=s.length:=⟨_,rfl⟩
  rw [←hm] at HR hsn ⊢
  have HM:=qd hm
  have HLe:=qd (lead_any s m B A2 c2 wr hm.symm (by omega) HOK.out HR.out)
  clear hm
  go_wp2_with fail
  refine HLe.out.mono ?_
  clear HLe
  rintro e w2 ⟨rfl,hr2,hg2⟩
  have HB2:=qd (HB.out.trans (below_own HR.out hg2 hB HB.out.size))
  have HR2:=qd hr2
  have HOK2:=qd (leadF_ok HOK.out)
  have HL2:=qd (show (leadF s).length=m by rw [leadF_len,HM.out])
  have HRd2:Hid (Rd w2 7 m A2 ((leadF s).flatMap PtM.cells)):=by obtain ⟨A9,c9,e,_,h,_⟩:=own_typed hr2;cases e;exact qd h.rd
  clear hr2 hg2
  have HAl:=qd (alive_any (leadF s) m A2 c2 w2 HL2.out (by omega) HOK2.out HRd2.out)
  go_wp2_with fail
  refine HAl.out.mono ?_
  clear HAl
  rintro e w3 ⟨A3,c3,rfl,hr3,hb3⟩
  have HB3:=qd (HB2.out.trans (hb3.mono HB2.out.size))
  have HL3:=qd (show (aliveF (leadF s)).length≤m by have:=aliveF_len (leadF s);rw [HL2.out] at this;exact this)
  obtain ⟨z3,hz3⟩:∃z,z=(aliveF (leadF s)).length:=⟨_,rfl⟩
  have HZ3:=qd hz3
  rw [←hz3] at hr3 HL3 ⊢
  have HRd3:Hid (Rd w3 7 z3 A3 ((aliveF (leadF s)).flatMap PtM.cells)∧z3≤c3):=by obtain ⟨A9,c9,e,hc9,h,_⟩:=own_typed hr3;cases e;exact qd ⟨h.rd,hc9⟩
  have hz9:z3≤m:=HL3.out
  have HLv:=qd (leaving_any (aliveF (leadF s)) z3 A3 c3 w3 HZ3.out.symm (by omega) HRd3.out.2 HRd3.out.1)
  clear hr3 hb3 hz3 hz9
  go_wp2_with fail
  refine HLv.out.mono ?_
  clear HLv
  rintro e w4 ⟨A4,c4,rfl,hr4,hb4⟩
  have HB4:=qd (HB3.out.trans (hb4.mono HB3.out.size))
  have HR4:=qd hr4
  have HW3:=qd HB3.out.size
  have HOK4:=qd (show ∀p∈roundF s,p.ok from roundF_ok HOK.out)
  obtain ⟨z4,hz4⟩:∃z,z=(leavF (aliveF (leadF s))).length:=⟨_,rfl⟩
  have hz5:z4≤m:=by rw [hz4,HM.out];exact roundF_len s
  have HZ4:=qd hz4
  rw [←hz4] at HR4 ⊢
  clear hr4 hb4 hz4
  by_cases he:z4=m
  ·have e1:((z4:Int)==(m:Int))=true:=by rw [he];simp
   have HE:=qd (show roundF s=tidyF l by rw [←HT.out,tidyF_end (by rw [←HM.out,←he,HZ4.out];rfl)])
   clear he
   go_wp2_with fail
   go_ret
   refine ⟨A4,c4,?_,?_,HB4.out⟩
   ·rw [←HE.out];show _=Ending.returned (.slice A4 (leavF (aliveF (leadF s))).length c4);rw [←HZ4.out];rfl
   ·rw [←HE.out]
    show w4.ownsRow _ _ 7 (.slice A4 (leavF (aliveF (leadF s))).length c4) (leavF (aliveF (leadF s))).length ((leavF (aliveF (leadF s))).flatMap PtM.cells)
    rw [←HZ4.out]
    exact own_base HR4.out HW3.out
  ·have e1:((z4:Int)==(m:Int))=false:=by rw [beq_eq_false_iff_ne];omega
   have HE:=qd (show tidyF (roundF s)=tidyF l by rw [←HT.out];exact (tidyF_on (fun h=>he (by rw [HZ4.out,HM.out];exact h))).symm)
   go_wp2_with fail
   go_roundw
   case rel=>exact ⟨roundF s,A4,c4,w.heap.size,by rw [HZ4.out];rfl,by show (leavF (aliveF (leadF s))).length≤n;rw [←HZ4.out];omega,Nat.le_refl _,by
    have h:=own_base HR4.out HW3.out
    rw [HZ4.out] at h
    exact qd h,HB4,HOK4,HE⟩
   case measure=>simp [lenOf];omega
end Go.Proofs.YtcnebdjhhfnmoaaGreatDoor.Ju
namespace Go.Proofs.YtcnebdjhhfnmoaaGreatDoor.Ju
open Go.RowKit Go.Maps Go.WideMaps Go.WideElems Go.ChangeMaps
structure BR (w0 w:World)(p B:Nat)(v:Value)(k:Int)(s:List PtM):Prop where
 box:Bk w p 152 [.int .i64 k,v]
 row:w.ownsRow B 78 7 v s.length (s.flatMap PtM.cells)
 pB:p<B
 le:B≤w.heap.size
 bel:Below w0.heap.size w0 w
 p0:w0.heap.size≤p
section
variable {w0 w w':World} {p B:Nat} {v:Value} {k:Int} {s:List PtM}
theorem BR.below (h:BR w0 w p B v k s)(hb:Below w.heap.size w w'):BR w0 w' p B v k s:=⟨h.box.kept hb,own_keepN h.row hb,h.pB,Nat.le_trans h.le hb.size,h.bel.trans (hb.mono h.bel.size),h.p0⟩
theorem BR.slice (h:BR w0 w p B v k s):∃A cp,v=.slice A s.length cp:=by obtain ⟨A,cp,e,_⟩:=own_typed h.row;exact ⟨A,cp,e⟩
theorem BR.named (h:BR w0 w p B v k s)(k':Int):BR w0 (w.setCell ⟨p,0,none⟩ (.int .i64 k')) p B v k' s:=by
 have hs:=only_set w p 0 (.int .i64 k')
 have:=h.p0
 exact ⟨h.box.set 0 _,own_keep h.row hs (fun b hb e=>by have:=(own_ge h.row b hb).1;have:=h.pB;omega),h.pB,Nat.le_trans h.le hs.size,h.bel.grown hs h.bel.size (fun r e=>by injection e with e;omega),h.p0⟩
theorem BR.run (h:BR w0 w p B v k s)(q:PtM)(hl:s.length≤5000)(ty:TypeId) :
  ∃v' wb,(Builtin.append_ #[67,67] ty #[v,.slice (some ⟨w.heap.size,0,none⟩) 1 1]).run Tryz.prog (w.alloc (.cells #[.int .u8 q.kd,.int .i64 q.tQ,.int .i64 q.el,.int .u16 q.i.c,.int .u8 q.i.t,.int .u8 q.i.f,.int .u32 q.i.k] 78))=.ok v' wb ∧
   BR w0 (wb.setCell ⟨p,1,none⟩ v') p B v' k (s++[q])∧wb.cell? ⟨p,1,none⟩=some v∧wb.frozen? ⟨p,1,none⟩=false∧p<wb.heap.size:=by
 obtain ⟨i0,hi,hz0,hz1,hz2⟩:=info_parts infoPart
 have hb:=oneb w (.cells #[.int .u8 q.kd,.int .i64 q.tQ,.int .i64 q.el,.int .u16 q.i.c,.int .u8 q.i.t,.int .u8 q.i.f,.int .u32 q.i.k] 78)
 have hk:=h.below hb
 have hB:Bk (w.alloc (.cells #[.int .u8 q.kd,.int .i64 q.tQ,.int .i64 q.el,.int .u16 q.i.c,.int .u8 q.i.t,.int .u8 q.i.f,.int .u32 q.i.k] 78)) w.heap.size 78 q.cells:=Bk.new w _ _ rfl
 obtain ⟨v',wb,hr,ho,hg,_,hat⟩:=run_append_own_at (P:=Tryz.prog) (w.alloc (.cells #[.int .u8 q.kd,.int .i64 q.tQ,.int .i64 q.el,.int .u16 q.i.c,.int .u8 q.i.t,.int .u8 q.i.f,.int .u32 q.i.k] 78)) B 67 ty 78 i0 _ 7 32 Tryz.underlying67 hi hz0 hz1 hz2 rfl (by decide) v s.length _ hk.row ⟨w.heap.size,0,none⟩ 1 1 q.cells (by rfl) (fun j u hu=>by rw [addr_at,Nat.zero_add];exact hB.cell j hu) (pt_one q) (by unfold maxLen;omega) (by omega) hk.le
 have hge:=own_ge hk.row
 have hp:=h.pB
 have hp0:=h.p0
 have hbox:Bk wb p 152 [.int .i64 k,v]:=hk.box.grown hg (fun e=>by have:=(hge p e.symm).1;omega)
 have hs:=only_set wb p 1 v'
 refine ⟨v',wb,hr,⟨hbox.set 1 v',?_,hp,Nat.le_trans hk.le (Nat.le_trans hg.size hs.size),?_,hp0⟩,hbox.cell 1 rfl,hbox.fz 1,hbox.lt⟩
 ·have:=own_keep ho hs (fun b hb e=>by have:=(own_ge ho b hb).1;omega)
  simpa using this
 ·exact (hk.bel.grown hg hk.bel.size (fun r e=>by have:=(hge r e).1;omega)).grown hs (Nat.le_trans hk.bel.size hg.size) (fun r e=>by injection e with e;omega)
end
def RetB (b:Bool)(w:World)(e:Ending)(w':World):Prop:=e=.returned (.bool b)∧Below w.heap.size w w'
end Go.Proofs.YtcnebdjhhfnmoaaGreatDoor.Ju
