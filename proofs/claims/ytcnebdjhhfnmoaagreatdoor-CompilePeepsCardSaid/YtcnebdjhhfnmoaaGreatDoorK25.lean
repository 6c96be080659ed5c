/- Peep: parts without loads of what is loaded. -/
import Derived.Test.YtcnebdjhhfnmoaaGreatDoorK24
import Derived.Test.YtcnebdjhhfnmoaaGreatDoorK10
import Derived.Test.YtcnebdjhhfnmoaaGreatDoorK05
import Derived.Test.YtcnebdjhhfnmoaaGreatDoorK09
set_option linter.unusedSimpArgs false
set_option maxHeartbeats 32000000
set_option maxRecDepth 100000
namespace Go.Proofs.YtcnebdjhhfnmoaaGreatDoor.Co
open Go.RowKit Go.Maps Go.WideMaps Go.WideElems Go.ChangeMaps Go.Proofs.YtcnebdjhhfnmoaaGreatDoor.Ju
theorem loads_any (q:PtM) (w:World):Calls Tryz.prog 105 #[.agg #[.int .u8 q.kd,.int .i64 q.tQ,.int .i64 q.el,.int .u16 q.i.c,.int .u8 q.i.t,.int .u8 q.i.f,.int .u32 q.i.k]] w fun e w'=>e=.returned (.bool (ldB q))∧Below w.heap.size w w':=by
 obtain ⟨W,hW⟩:∃W,W=w.alloc (.cells #[.int .u8 q.kd,.int .i64 q.tQ,.int .i64 q.el,.int .u16 q.i.c,.int .u8 q.i.t,.int .u8 q.i.f,.int .u32 q.i.k] 78):=⟨_,rfl⟩
 have hbx:Bk W w.heap.size 78 q.cells:=by rw [hW];exact Bk.new w _ _ rfl
 have hb1:Below w.heap.size w W:=by rw [hW];exact oneb w _
 have HB:=Lib.hid hb1
 have HBx:=Lib.hid hbx
 go_enter Tryz.func105,Tryz.ntmps105
 go_upto_region 1 with fail
 rw [←hW]
 clear hW hb1 hbx
 generalize hxb:w.heap.size=xb at *
 have HXB:=Lib.hid hxb
 clear hxb
 have y0:=HBx.out.cell 0 rfl
 have y3:=HBx.out.cell 3 rfl
 have yl:=HBx.out.lt
 by_cases h2:q.kd=2
 ·have e2:((q.kd:Int)==2)=true:=by rw [h2];rfl
  obtain ⟨bb,hbb⟩:∃bb,bb=decide (q.i.c=32):=⟨_,rfl⟩
  have e6:((q.i.c:Int)==32)=bb:=by
   rw [hbb,Bool.eq_iff_iff,beq_iff_eq,decide_eq_true_eq];omega
  have HV:=Lib.hid (show ldB q=bb by unfold ldB;rw [hbb];simp [h2])
  clear h2 hbb
  go_wp2_with fail
  go_ret
  rw [HV.out]
  exact ⟨rfl,by rw [HXB.out];exact HB.out⟩
 have e2:((q.kd:Int)==2)=false:=by rw [beq_eq_false_iff_ne];omega
 have HV:=Lib.hid (show ldB q=false by unfold ldB;simp [h2])
 clear h2
 go_wp2_with fail
 go_ret
 rw [HV.out]
 exact ⟨rfl,by rw [HXB.out];exact HB.out⟩
theorem again_any (p l:PtM) (w:World):Calls Tryz.prog 59 #[.agg #[.int .u8 p.kd,.int .i64 p.tQ,.int .i64 p.el,.int .u16 p.i.c,.int .u8 p.i.t,.int .u8 p.i.f,.int .u32 p.i.k],.agg #[.int .u8 l.kd,.int .i64 l.tQ,.int .i64 l.el,.int .u16 l.i.c,.int .u8 l.i.t,.int .u8 l.i.f,.int .u32 l.i.k]] w fun e w'=>e=.returned (.bool (againB p l))∧Below w.heap.size w w':=by
 obtain ⟨W1,hW1⟩:∃W,W=w.alloc (.cells #[.int .u8 p.kd,.int .i64 p.tQ,.int .i64 p.el,.int .u16 p.i.c,.int .u8 p.i.t,.int .u8 p.i.f,.int .u32 p.i.k] 78):=⟨_,rfl⟩
 obtain ⟨W2,hW2⟩:∃W,W=W1.alloc (.cells #[.int .u8 l.kd,.int .i64 l.tQ,.int .i64 l.el,.int .u16 l.i.c,.int .u8 l.i.t,.int .u8 l.i.f,.int .u32 l.i.k] 78):=⟨_,rfl⟩
 have hs1:W1.heap.size=w.heap.size+1:=by rw [hW1];simp
 have hbx:Bk W2 w.heap.size 78 p.cells:=by rw [hW2];exact (show Bk W1 w.heap.size 78 p.cells by rw [hW1];exact Bk.new w _ _ rfl).kept (oneb W1 _)
 have hby:Bk W2 (w.heap.size+1) 78 l.cells:=by rw [hW2,←hs1];exact Bk.new W1 _ _ rfl
 have hb1:Below w.heap.size w W2:=by rw [hW2];exact (show Below w.heap.size w W1 by rw [hW1];exact oneb w _).trans ((oneb W1 _).mono (by omega))
 have HB:=Lib.hid hb1
 have HBx:=Lib.hid hbx
 have HBy:=Lib.hid hby
 go_enter Tryz.func59,Tryz.ntmps59
 go_upto_region 1 with fail
 rw [←hW1,←hW2]
 clear hW1 hW2 hb1 hbx hby hs1
 generalize hxa:w.heap.size=xa at *
 generalize hxb:xa+1=xb at *
 have HXA:=Lib.hid hxa
 clear hxa hxb
 have y0:=HBx.out.cell 0 rfl
 have y1:=HBx.out.cell 1 rfl
 have y2:=HBx.out.cell 2 rfl
 have y3:=HBx.out.cell 3 rfl
 have y4:=HBx.out.cell 4 rfl
 have y5:=HBx.out.cell 5 rfl
 have y6:=HBx.out.cell 6 rfl
 have yl:=HBx.out.lt
 go_wp2_with fail
 refine (loads_any p _).mono ?_
 clear y0 y1 y2 y3 y4 y5 y6 yl
 rintro e w3 ⟨rfl,hb3⟩
 have HBx:=Lib.hid (HBx.out.kept hb3)
 have HBy:=Lib.hid (HBy.out.kept hb3)
 have HB3:=Lib.hid (show Below w.heap.size w w3 from by rw [HXA.out];exact HB.out.trans (hb3.mono (by have:=HB.out.size;have:=HXA.out;omega)))
 clear hb3
 obtain ⟨b1,hb1⟩:∃b,b=ldB p:=⟨_,rfl⟩
 rw [←hb1]
 cases b1 with
 | false=>
  have HV:=Lib.hid (show againB p l=false by unfold againB;rw [←hb1];rfl)
  clear hb1
  go_wp2_with fail
  go_ret
  rw [HV.out]
  exact ⟨rfl,HB3.out⟩
 | true=>
 have HV1:=Lib.hid hb1
 clear hb1
 have y0:=HBy.out.cell 0 rfl
 have y1:=HBy.out.cell 1 rfl
 have y2:=HBy.out.cell 2 rfl
 have y3:=HBy.out.cell 3 rfl
 have y4:=HBy.out.cell 4 rfl
 have y5:=HBy.out.cell 5 rfl
 have y6:=HBy.out.cell 6 rfl
 have yl:=HBy.out.lt
 go_wp2_with fail
 refine (loads_any l _).mono ?_
 clear y0 y1 y2 y3 y4 y5 y6 yl
 rintro e w4 ⟨rfl,hb4⟩
 have HBx:=Lib.hid (HBx.out.kept hb4)
 have HBy:=Lib.hid (HBy.out.kept hb4)
 have HB4:=Lib.hid (HB3.out.trans (hb4.mono HB3.out.size))
 clear hb4
 obtain ⟨b2,hb2⟩:∃b,b=ldB l:=⟨_,rfl⟩
 rw [←hb2]
 cases b2 with
 | false=>
  have HV:=Lib.hid (show againB p l=false by unfold againB;rw [←hb2];simp)
  clear hb2
  go_wp2_with fail
  go_ret
  rw [HV.out]
  exact ⟨rfl,HB4.out⟩
 | true=>
 obtain ⟨b3,hb3⟩:∃b,b=decide (p.i.k=l.i.k):=⟨_,rfl⟩
 have HV:=Lib.hid (show againB p l=b3 by unfold againB;rw [←hb2,←HV1.out,←hb3];rfl)
 have e3:((p.i.k:Int)==(l.i.k:Int))=b3:=by rw [hb3,Bool.eq_iff_iff,beq_iff_eq,decide_eq_true_eq];omega
 clear hb2 hb3
 have y6:=HBx.out.cell 6 rfl
 have z6:=HBy.out.cell 6 rfl
 have yl:=HBx.out.lt
 have zl:=HBy.out.lt
 go_wp2_with fail
 go_ret
 rw [HV.out]
 exact ⟨rfl,HB4.out⟩
structure PkR (w wr:World) (v:Value) (xb:Nat) (left:List PtM) (last:PtM):Prop where
 bel:Below w.heap.size w wr
 row:wr.ownsRow w.heap.size 78 7 v left.length (left.flatMap PtM.cells)
 box:Bk wr xb 78 last.cells
 ge:w.heap.size≤xb
 off:∀g,v.ownBlock=some g→g≠xb
theorem PkR.kept {w wr w':World} {v:Value} {xb:Nat} {s:List PtM} {q:PtM} (h:PkR w wr v xb s q) (hb:Below wr.heap.size wr w'):PkR w w' v xb s q:=⟨h.bel.trans (hb.mono h.bel.size),own_keepN h.row hb,h.box.kept hb,h.ge,h.off⟩
theorem PkR.more {w wr w':World} {v v':Value} {xb:Nat} {s:List PtM} {l q:PtM} (h:PkR w wr v xb s l) (hr:w'.ownsRow w.heap.size 78 7 v' (s.length+1) (s.flatMap PtM.cells++q.cells)) (hg:wr.grownBy w' v.ownBlock) (hv:v'.ownBlock=v.ownBlock∨v'.ownBlock=some wr.heap.size):PkR w w' v' xb (s++[q]) l:=
 ⟨h.bel.grown hg h.bel.size (fun r e=>(own_ge h.row r e).1),by simpa using hr,h.box.grown hg (fun e=>h.off _ e.symm rfl),h.ge,fun g e=>by
  rcases hv with a|a
  ·exact h.off g (by rw [←a];exact e)
  ·rw [a] at e;cases e;have:=h.box.lt;omega⟩
theorem PkR.slice {w wr:World} {v:Value} {xb:Nat} {s:List PtM} {q:PtM} (h:PkR w wr v xb s q):∃A cp,v=.slice A s.length cp:=by obtain ⟨A,cp,e,_⟩:=own_typed h.row;exact ⟨A,cp,e⟩
theorem peep_any (l:List PtM) (n:Nat) (A:Option Addr) (cap:Nat) (w:World) (hl:l.length=n) (hn:n≤65536) (hr:Rd w 7 n A (l.flatMap PtM.cells)) :
  Calls Tryz.prog 24 #[.slice A n cap] w (ClP2 (peepF l) w):=by
 have HR:=Lib.hid hr
 have HL:=Lib.hid hl
 clear hr hl
 go_enter Tryz.func24,Tryz.ntmps24
 go_upto_region 3 with fail
 have hbx:=Bk.new w 78 #[.int .u8 0,.int .i64 0,.int .i64 0,.int .u16 0,.int .u8 0,.int .u8 0,.int .u32 0] (l:=zPt.cells) rfl
 have hb1:=oneb w (.cells #[.int .u8 0,.int .i64 0,.int .i64 0,.int .u16 0,.int .u8 0,.int .u8 0,.int .u32 0] 78)
 have HA:=Lib.hid (show PkR w (w.alloc (.cells #[.int .u8 0,.int .i64 0,.int .i64 0,.int .u16 0,.int .u8 0,.int .u8 0,.int .u32 0] 78)) (.slice none 0 0) w.heap.size [] zPt from ⟨hb1,World.ownsRow_nil _ _ _ _,hbx,Nat.le_refl _,fun g e=>by cases e⟩)
 generalize World.alloc w _=w1 at HA ⊢
 obtain ⟨xb,hxb⟩:∃x,x=w.heap.size:=⟨_,rfl⟩
 rw [←hxb] at HA ⊢
 clear hbx hb1 hxb
 go_wp2_with fail
 go_loopw [3,9] (fun sv iv wz=>∃(i:Nat) (s:List PtM) (q:PtM) (B:Option Addr) (c9:Nat),iv=.int .i64 i∧sv=.slice B s.length c9∧i≤n∧s.length≤i∧Hid (PkR w wz (.slice B s.length c9) xb s q)∧Hid (peepT (l.take i)=(s,q))) (fun _ iv _=>n-(intOf iv).toNat)
 case atStart=>exact ⟨0,[],zPt,none,0,rfl,rfl,Nat.zero_le _,Nat.le_refl _,HA,Lib.hid rfl⟩
 case round=>
  clear HA
  rename World=>wz
  obtain ⟨i,s,q,B,c9,rfl,rfl,hi,hli,HA,HF⟩:=hrel
  by_cases hlt:i<n
  ·obtain ⟨x,hx⟩:∃x,l[i]?=some x:=⟨_,List.getElem?_eq_getElem (by have:=HL.out;omega)⟩
   obtain ⟨b,o,hA,hbl,hcell⟩:=(HR.out.below HA.out.bel).one (fun _=>rfl) (by omega) (by omega)
   obtain ⟨c0,c1,c2,c3,c4,c5,c6⟩:=seven_cells hcell hx
   subst hA
   have HT:=Lib.hid (show peepT (l.take (i+1))=if againB x q=true then (s,q) else (s++[x],nxtP q x) by
    rw [List.take_add_one,hx]
    show peepT (l.take i++[x])=_
    rw [peepT_snoc,HF.out])
   clear hcell hx
   go_upto_region 6 with fail
   have hb2:=oneb wz (.cells #[.int .u8 x.kd,.int .i64 x.tQ,.int .i64 x.el,.int .u16 x.i.c,.int .u8 x.i.t,.int .u8 x.i.f,.int .u32 x.i.k] 78)
   have hk:=Bk.new wz 78 #[.int .u8 x.kd,.int .i64 x.tQ,.int .i64 x.el,.int .u16 x.i.c,.int .u8 x.i.t,.int .u8 x.i.f,.int .u32 x.i.k] (l:=x.cells) rfl
   generalize World.alloc wz _=w4 at hb2 hk ⊢
   have hvx:∀g,(Value.slice B s.length c9).ownBlock=some g→g<wz.heap.size:=fun g hg=>(own_ge HA.out.row g hg).2
   have hxl:=HA.out.box.lt
   obtain ⟨xk,hxk⟩:∃x,x=wz.heap.size:=⟨_,rfl⟩
   rw [←hxk] at hk hvx hxl ⊢
   have HA:=Lib.hid (HA.out.kept hb2)
   have HVX:=Lib.hid hvx
   have HXL:=Lib.hid hxl
   have HK:=Lib.hid hk
   clear c0 c1 c2 c3 c4 c5 c6 hbl hb2 hk hvx hxk hxl
   have y0:=HK.out.cell 0 rfl
   have y1:=HK.out.cell 1 rfl
   have y2:=HK.out.cell 2 rfl
   have y3:=HK.out.cell 3 rfl
   have y4:=HK.out.cell 4 rfl
   have y5:=HK.out.cell 5 rfl
   have y6:=HK.out.cell 6 rfl
   have yl:=HK.out.lt
   have z0:=HA.out.box.cell 0 rfl
   have z1:=HA.out.box.cell 1 rfl
   have z2:=HA.out.box.cell 2 rfl
   have z3:=HA.out.box.cell 3 rfl
   have z4:=HA.out.box.cell 4 rfl
   have z5:=HA.out.box.cell 5 rfl
   have z6:=HA.out.box.cell 6 rfl
   have zl:=HA.out.box.lt
   go_wp2_with fail
   refine (again_any x q _).mono ?_
   clear y0 y1 y2 y3 y4 y5 y6 yl z0 z1 z2 z3 z4 z5 z6 zl
   rintro e w5 ⟨rfl,hb5⟩
   have HA5:=Lib.hid (HA.out.kept hb5)
   have HK5:=Lib.hid (HK.out.kept hb5)
   clear hb5 HA HK
   obtain ⟨bb,hbb⟩:∃b,b=againB x q:=⟨_,rfl⟩
   rw [←hbb] at HT ⊢
   cases bb with
   | true=>
    have HT:=Lib.hid (HT.out.trans (if_pos rfl))
    clear hbb
    go_wp2_with fail
    go_roundw
    case rel=>exact ⟨i+1,s,q,B,c9,by go_num,rfl,by omega,by omega,HA5,HT⟩
    case measure=>simp [intOf];omega
   | false=>
    have HT:=Lib.hid (HT.out.trans (if_neg (by decide)))
    clear hbb
    have y0:=HK5.out.cell 0 rfl
    have y1:=HK5.out.cell 1 rfl
    have y2:=HK5.out.cell 2 rfl
    have y3:=HK5.out.cell 3 rfl
    have y4:=HK5.out.cell 4 rfl
    have y5:=HK5.out.cell 5 rfl
    have y6:=HK5.out.cell 6 rfl
    have yl:=HK5.out.lt
    have HA5b:=Lib.hid (HA5.out.kept (oneb w5 (.cells #[.int .u8 x.kd,.int .i64 x.tQ,.int .i64 x.el,.int .u16 x.i.c,.int .u8 x.i.t,.int .u8 x.i.f,.int .u32 x.i.k] 78)))
    have HK5b:=Lib.hid (HK5.out.kept (oneb w5 (.cells #[.int .u8 x.kd,.int .i64 x.tQ,.int .i64 x.el,.int .u16 x.i.c,.int .u8 x.i.t,.int .u8 x.i.f,.int .u32 x.i.k] 78)))
    by_cases hs:x.kd=2∨x.kd=1
    ·have HT:=Lib.hid (show peepT (l.take (i+1))=(s++[x],x) by rw [HT.out];unfold nxtP;rw [if_pos hs])
     rcases hs with h2|h1
     ·have e2:((x.kd:Int)==2)=true:=by rw [h2];rfl
      clear h2
      go_wp2_with (at_builtin;refine append_one rfl (.tmp 16) (.tmp 18) 67 78 rfl _ 7 32 infoPart Tryz.underlying67 rfl (by decide) (by decide) w.heap.size _ s.length (s.flatMap PtM.cells) rfl HA5b.out.row w5.heap.size [.int .u8 x.kd,.int .i64 x.tQ,.int .i64 x.el,.int .u16 x.i.c,.int .u8 x.i.t,.int .u8 x.i.f,.int .u32 x.i.k] rfl rfl (Bk.new w5 _ _ rfl) (pt_one x) (by omega) HA5b.out.bel.size ?_;intro v' w6 hown hgrow hv6;have HA6:=Lib.hid (HA5b.out.more (q:=x) hown hgrow hv6);have HK6:=Lib.hid (HK5b.out.grown hgrow (fun e=>by have:=HVX.out _ e.symm;omega));clear y0 y1 y2 y3 y4 y5 y6 yl hown hgrow hv6 HA5b HK5b HA5 HK5;obtain ⟨A7,c7,hv7⟩:=HA6.out.slice;obtain ⟨n7,hn7⟩:∃n7,n7=(s++[x]).length:=⟨_,rfl⟩;rw [←hn7] at hv7;subst hv7;have HN7:=Lib.hid hn7;clear hn7;have y0:=HK6.out.cell 0 rfl;have y1:=HK6.out.cell 1 rfl;have y2:=HK6.out.cell 2 rfl;have y3:=HK6.out.cell 3 rfl;have y4:=HK6.out.cell 4 rfl;have y5:=HK6.out.cell 5 rfl;have y6:=HK6.out.cell 6 rfl;have yl:=HK6.out.lt;have z0:=HA6.out.box.cell 0 rfl;have z1:=HA6.out.box.cell 1 rfl;have z2:=HA6.out.box.cell 2 rfl;have z3:=HA6.out.box.cell 3 rfl;have z4:=HA6.out.box.cell 4 rfl;have z5:=HA6.out.box.cell 5 rfl;have z6:=HA6.out.box.cell 6 rfl;have zl:=HA6.out.box.lt;have f0:=HA6.out.box.fz 0;have f1:=HA6.out.box.fz 1;have f2:=HA6.out.box.fz 2;have f3:=HA6.out.box.fz 3;have f4:=HA6.out.box.fz 4;have f5:=HA6.out.box.fz 5;have f6:=HA6.out.box.fz 6)
      clear y0 y1 y2 y3 y4 y5 y6 yl z0 z1 z2 z3 z4 z5 z6 zl f0 f1 f2 f3 f4 f5 f6
      obtain ⟨hp1,hp2⟩:=put_part HA6.out.box x
      have HA7:Hid (PkR w (W7 w6 xb x) (.slice A7 n7 c7) xb (s++[x]) x):=Lib.hid ⟨only_below HA6.out.bel hp2 HA6.out.bel.size HA6.out.ge,own_keep HA6.out.row hp2 (fun g e=>HA6.out.off g e),hp1,HA6.out.ge,HA6.out.off⟩
      unfold W7 at HA7
      clear hp1 hp2
      rw [HN7.out] at HA7
      go_roundw
      case rel=>exact ⟨i+1,s++[x],x,A7,c7,by go_num,by rw [HN7.out],by omega,by simp only [List.length_append,List.length_cons,List.length_nil];omega,HA7,HT⟩
      case measure=>simp [intOf];omega
     ·have e2:((x.kd:Int)==2)=false:=by rw [h1];rfl
      have e1:((x.kd:Int)==1)=true:=by rw [h1];rfl
      clear h1
      go_wp2_with (at_builtin;refine append_one rfl (.tmp 16) (.tmp 18) 67 78 rfl _ 7 32 infoPart Tryz.underlying67 rfl (by decide) (by decide) w.heap.size _ s.length (s.flatMap PtM.cells) rfl HA5b.out.row w5.heap.size [.int .u8 x.kd,.int .i64 x.tQ,.int .i64 x.el,.int .u16 x.i.c,.int .u8 x.i.t,.int .u8 x.i.f,.int .u32 x.i.k] rfl rfl (Bk.new w5 _ _ rfl) (pt_one x) (by omega) HA5b.out.bel.size ?_;intro v' w6 hown hgrow hv6;have HA6:=Lib.hid (HA5b.out.more (q:=x) hown hgrow hv6);have HK6:=Lib.hid (HK5b.out.grown hgrow (fun e=>by have:=HVX.out _ e.symm;omega));clear y0 y1 y2 y3 y4 y5 y6 yl hown hgrow hv6 HA5b HK5b HA5 HK5;obtain ⟨A7,c7,hv7⟩:=HA6.out.slice;obtain ⟨n7,hn7⟩:∃n7,n7=(s++[x]).length:=⟨_,rfl⟩;rw [←hn7] at hv7;subst hv7;have HN7:=Lib.hid hn7;clear hn7;have y0:=HK6.out.cell 0 rfl;have y1:=HK6.out.cell 1 rfl;have y2:=HK6.out.cell 2 rfl;have y3:=HK6.out.cell 3 rfl;have y4:=HK6.out.cell 4 rfl;have y5:=HK6.out.cell 5 rfl;have y6:=HK6.out.cell 6 rfl;have yl:=HK6.out.lt;have z0:=HA6.out.box.cell 0 rfl;have z1:=HA6.out.box.cell 1 rfl;have z2:=HA6.out.box.cell 2 rfl;have z3:=HA6.out.box.cell 3 rfl;have z4:=HA6.out.box.cell 4 rfl;have z5:=HA6.out.box.cell 5 rfl;have z6:=HA6.out.box.cell 6 rfl;have zl:=HA6.out.box.lt;have f0:=HA6.out.box.fz 0;have f1:=HA6.out.box.fz 1;have f2:=HA6.out.box.fz 2;have f3:=HA6.out.box.fz 3;have f4:=HA6.out.box.fz 4;have f5:=HA6.out.box.fz 5;have f6:=HA6.out.box.fz 6)
      clear y0 y1 y2 y3 y4 y5 y6 yl z0 z1 z2 z3 z4 z5 z6 zl f0 f1 f2 f3 f4 f5 f6
      obtain ⟨hp1,hp2⟩:=put_part HA6.out.box x
      have HA7:Hid (PkR w (W7 w6 xb x) (.slice A7 n7 c7) xb (s++[x]) x):=Lib.hid ⟨only_below HA6.out.bel hp2 HA6.out.bel.size HA6.out.ge,own_keep HA6.out.row hp2 (fun g e=>HA6.out.off g e),hp1,HA6.out.ge,HA6.out.off⟩
      unfold W7 at HA7
      clear hp1 hp2
      rw [HN7.out] at HA7
      go_roundw
      case rel=>exact ⟨i+1,s++[x],x,A7,c7,by go_num,by rw [HN7.out],by omega,by simp only [List.length_append,List.length_cons,List.length_nil];omega,HA7,HT⟩
      case measure=>simp [intOf];omega
    ·have HT:=Lib.hid (show peepT (l.take (i+1))=(s++[x],q) by rw [HT.out];unfold nxtP;rw [if_neg hs])
     have e2:((x.kd:Int)==2)=false:=by rw [beq_eq_false_iff_ne];omega
     have e1:((x.kd:Int)==1)=false:=by rw [beq_eq_false_iff_ne];omega
     clear hs
     go_wp2_with (at_builtin;refine append_one rfl (.tmp 16) (.tmp 18) 67 78 rfl _ 7 32 infoPart Tryz.underlying67 rfl (by decide) (by decide) w.heap.size _ s.length (s.flatMap PtM.cells) rfl HA5b.out.row w5.heap.size [.int .u8 x.kd,.int .i64 x.tQ,.int .i64 x.el,.int .u16 x.i.c,.int .u8 x.i.t,.int .u8 x.i.f,.int .u32 x.i.k] rfl rfl (Bk.new w5 _ _ rfl) (pt_one x) (by omega) HA5b.out.bel.size ?_;intro v' w6 hown hgrow hv6;have HA6:=Lib.hid (HA5b.out.more (q:=x) hown hgrow hv6);have HK6:=Lib.hid (HK5b.out.grown hgrow (fun e=>by have:=HVX.out _ e.symm;omega));clear y0 y1 y2 y3 y4 y5 y6 yl hown hgrow hv6 HA5b HK5b HA5 HK5;obtain ⟨A7,c7,hv7⟩:=HA6.out.slice;obtain ⟨n7,hn7⟩:∃n7,n7=(s++[x]).length:=⟨_,rfl⟩;rw [←hn7] at hv7;subst hv7;have HN7:=Lib.hid hn7;clear hn7;have y0:=HK6.out.cell 0 rfl;have y1:=HK6.out.cell 1 rfl;have y2:=HK6.out.cell 2 rfl;have y3:=HK6.out.cell 3 rfl;have y4:=HK6.out.cell 4 rfl;have y5:=HK6.out.cell 5 rfl;have y6:=HK6.out.cell 6 rfl;have yl:=HK6.out.lt;have z0:=HA6.out.box.cell 0 rfl;have z1:=HA6.out.box.cell 1 rfl;have z2:=HA6.out.box.cell 2 rfl;have z3:=HA6.out.box.cell 3 rfl;have z4:=HA6.out.box.cell 4 rfl;have z5:=HA6.out.box.cell 5 rfl;have z6:=HA6.out.box.cell 6 rfl;have zl:=HA6.out.box.lt;have f0:=HA6.out.box.fz 0;have f1:=HA6.out.box.fz 1;have f2:=HA6.out.box.fz 2;have f3:=HA6.out.box.fz 3;have f4:=HA6.out.box.fz 4;have f5:=HA6.out.box.fz 5;have f6:=HA6.out.box.fz 6)
     rw [HN7.out] at HA6
     go_roundw
     case rel=>exact ⟨i+1,s++[x],q,A7,c7,by go_num,by rw [HN7.out],by omega,by simp only [List.length_append,List.length_cons,List.length_nil];omega,HA6,HT⟩
     case measure=>simp [intOf];omega
  ·go_wp2_with fail
   go_ret
   have hE:s=peepF l:=by
    have h:=HF.out
    rw [List.take_of_length_le (by have:=HL.out;omega)] at h
    rw [←peepT_fst,h]
   rw [←hE]
   exact ⟨_,_,rfl,HA.out.row,HA.out.bel⟩
end Go.Proofs.YtcnebdjhhfnmoaaGreatDoor.Co
