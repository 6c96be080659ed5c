/- A plan's code while it is laid: a builder within a struct. -/
import Derived.Test.YtcnebdjhhfnmoaaGreatDoorL28
import Derived.Test.YtcnebdjhhfnmoaaGreatDoorL10
import Derived.Test.YtcnebdjhhfnmoaaGreatDoorL01
set_option maxHeartbeats 32000000
set_option maxRecDepth 100000
namespace Go.Proofs.YtcnebdjhhfnmoaaGreatDoor.Lo
open Go.RowKit Go.Maps Go.WideMaps Go.WideElems Go.ChangeMaps Go.Proofs.YtcnebdjhhfnmoaaGreatDoor.Ju
def Oth (p:Nat)(w w':World):Prop:=w.heap.size≤w'.heap.size∧∀g t l,t≠78→g≠p→Bk w g t l→Bk w' g t l
section
variable {w w1 w2:World} {p:Nat}
theorem Oth.refl (p:Nat)(w:World):Oth p w w:=⟨Nat.le_refl _,fun _ _ _ _ _ h=>h⟩
theorem Oth.trans (h:Oth p w w1)(k:Oth p w1 w2):Oth p w w2:=⟨Nat.le_trans h.1 k.1,fun g t l ht hg hb=>k.2 g t l ht hg (h.2 g t l ht hg hb)⟩
theorem Oth.of (hb:Below w.heap.size w w1):Oth p w w1:=⟨hb.size,fun _ _ _ _ _ h=>h.kept hb⟩
theorem Oth.set (w:World)(p j:Nat)(v:Value):Oth p w (w.setCell ⟨p,j,none⟩ v):=⟨(only_set w p j v).size,fun _ _ _ _ hg h=>h.grown (only_set w p j v) (fun e=>hg (Option.some.inj e))⟩
end
structure LR (w0 w:World)(p B:Nat)(v:Value)(k d:Nat)(s:List PtM):Prop where
 box:Bk w p 154 [.int .i64 k,v,.int .u32 d]
 row:w.ownsRow B 78 7 v s.length (s.flatMap PtM.cells)
 pB:p<B
 le:B≤w.heap.size
 bel:Below w0.heap.size w0 w
 p0:w0.heap.size≤p
section
variable {w0 w w':World} {p B:Nat} {v:Value} {k d:Nat} {s:List PtM}
theorem LR.below (h:LR w0 w p B v k d s)(hb:Below w.heap.size w w'):LR w0 w' p B v k d s:=⟨h.box.kept hb,own_keepN h.row hb,h.pB,Nat.le_trans h.le hb.size,h.bel.trans (hb.mono h.bel.size),h.p0⟩
theorem LR.slice (h:LR w0 w p B v k d s):∃A cp,v=.slice A s.length cp:=by obtain ⟨A,cp,e,_⟩:=own_typed h.row;exact ⟨A,cp,e⟩
theorem LR.named (h:LR w0 w p B v k d s)(k':Nat):LR w0 (w.setCell ⟨p,0,none⟩ (.int .i64 k')) p B v k' d s:=by
 have hs:=only_set w p 0 (.int .i64 k')
 have:=h.p0
 exact ⟨h.box.set 0 _,own_keep h.row hs (fun b hb e=>by have:=(own_ge h.row b hb).1;have:=h.pB;omega),h.pB,Nat.le_trans h.le hs.size,h.bel.grown hs h.bel.size (fun r e=>by injection e with e;omega),h.p0⟩
theorem LR.run (h:LR w0 w p B v k d s)(q:PtM)(hl:s.length≤500000)(ty:TypeId) :
  ∃v' wb,(Builtin.append_ #[67,67] ty #[v,.slice (some ⟨w.heap.size,0,none⟩) 1 1]).run Tryz.prog (w.alloc (.cells #[.int .u8 q.kd,.int .i64 q.tQ,.int .i64 q.el,.int .u16 q.i.c,.int .u8 q.i.t,.int .u8 q.i.f,.int .u32 q.i.k] 78))=.ok v' wb ∧
   LR w0 (wb.setCell ⟨p,1,none⟩ v') p B v' k d (s++[q])∧wb.cell? ⟨p,1,none⟩=some v∧wb.frozen? ⟨p,1,none⟩=false∧p<wb.heap.size∧Oth p w (wb.setCell ⟨p,1,none⟩ v'):=by
 obtain ⟨i0,hi,hz0,hz1,hz2⟩:=info_parts infoPart
 have hb:=oneb w (.cells #[.int .u8 q.kd,.int .i64 q.tQ,.int .i64 q.el,.int .u16 q.i.c,.int .u8 q.i.t,.int .u8 q.i.f,.int .u32 q.i.k] 78)
 have hk:=h.below hb
 have hB:Bk (w.alloc (.cells #[.int .u8 q.kd,.int .i64 q.tQ,.int .i64 q.el,.int .u16 q.i.c,.int .u8 q.i.t,.int .u8 q.i.f,.int .u32 q.i.k] 78)) w.heap.size 78 q.cells:=Bk.new w _ _ rfl
 obtain ⟨v',wb,hr,ho,hg,_,hat⟩:=run_append_own_at (P:=Tryz.prog) (w.alloc (.cells #[.int .u8 q.kd,.int .i64 q.tQ,.int .i64 q.el,.int .u16 q.i.c,.int .u8 q.i.t,.int .u8 q.i.f,.int .u32 q.i.k] 78)) B 67 ty 78 i0 _ 7 32 Tryz.underlying67 hi hz0 hz1 hz2 rfl (by decide) v s.length _ hk.row ⟨w.heap.size,0,none⟩ 1 1 q.cells (by rfl) (fun j u hu=>by rw [addr_at,Nat.zero_add];exact hB.cell j hu) (pt_one q) (by unfold maxLen;omega) (by omega) hk.le
 have hge:=own_ge hk.row
 have hp:=h.pB
 have hp0:=h.p0
 have hbox:Bk wb p 154 [.int .i64 k,v,.int .u32 d]:=hk.box.grown hg (fun e=>by have:=(hge p e.symm).1;omega)
 have hs:=only_set wb p 1 v'
 obtain ⟨_,_,_,_,_,hty,_⟩:=own_typed hk.row
 have hoth:Oth p w (wb.setCell ⟨p,1,none⟩ v'):=by
  refine ((Oth.of hb).trans ⟨hg.size,fun g t l ht _ hbk=>hbk.grown hg (fun e=>?_)⟩).trans (Oth.set wb p 1 v')
  exact (hbk.tyb).ne (hty g e.symm) ht rfl
 refine ⟨v',wb,hr,⟨hbox.set 1 v',?_,hp,Nat.le_trans hk.le (Nat.le_trans hg.size hs.size),?_,hp0⟩,hbox.cell 1 rfl,hbox.fz 1,hbox.lt,hoth⟩
 ·have:=own_keep ho hs (fun b hb e=>by have:=(own_ge ho b hb).1;omega)
  simpa using this
 ·exact (hk.bel.grown hg hk.bel.size (fun r e=>by have:=(hge r e).1;omega)).grown hs (Nat.le_trans hk.bel.size hg.size) (fun r e=>by injection e with e;omega)
end
def LQ (w0 w:World)(p B k d:Nat)(s:List PtM)(e:Ending)(w':World):Prop:=e=.returned (.tuple #[])∧∃v2,LR w0 w' p B v2 k d s∧Oth p w w'
theorem ladd_any (w0 w:World)(p B:Nat)(v:Value)(k d:Nat)(s:List PtM)(q:PtM)(h:LR w0 w p B v k d s)(hl:s.length≤500000) :
  Calls Tryz.prog 97 #[.pointer (some ⟨p,0,none⟩),.agg #[.int .u8 q.kd,.int .i64 q.tQ,.int .i64 q.el,.int .u16 q.i.c,.int .u8 q.i.t,.int .u8 q.i.f,.int .u32 q.i.k]] w (LQ w0 w p B k d (s++[q])):=by
 obtain ⟨W,hW⟩:∃W,W=w.alloc (.cells #[.int .u8 q.kd,.int .i64 q.tQ,.int .i64 q.el,.int .u16 q.i.c,.int .u8 q.i.t,.int .u8 q.i.f,.int .u32 q.i.k] 78):=⟨_,rfl⟩
 have hbx:Bk W w.heap.size 78 q.cells:=by rw [hW];exact Bk.new w _ _ rfl
 have hb1:Below w.heap.size w W:=by rw [hW];exact oneb w _
 have HC:=qd (h.below hb1)
 have HO:=qd (show Oth p w W.drew from (Oth.of hb1).trans (Oth.of (Below.refl W.heap.size W).drew))
 have HBx:=qd hbx
 have hptr:∀w:World,(binOp .neq 211 (.pointer (some ⟨p,0,none⟩)) (.pointer none)).run Tryz.prog w=.ok (.bool true) w:=fun w=>by kernel_rfl
 go_enter Tryz.func97,Tryz.ntmps97
 go_upto_region 1 with fail
 rw [←hW]
 clear hW hb1 hbx h
 obtain ⟨xb,hxb⟩:∃xb,xb=w.heap.size:=⟨_,rfl⟩
 rw [←hxb] at HBx ⊢
 clear hxb
 have y0:=HBx.out.cell 0 rfl
 have y1:=HBx.out.cell 1 rfl
 have y2:=HBx.out.cell 2 rfl
 have y3:=HBx.out.cell 3 rfl
 have y4:=HBx.out.cell 4 rfl
 have y5:=HBx.out.cell 5 rfl
 have y6:=HBx.out.cell 6 rfl
 have yl:=HBx.out.lt
 have HD:=qd (HC.out.below (Below.refl W.heap.size W).drew)
 clear HC
 have HC:=HD
 clear HD
 obtain ⟨A,cp,rfl⟩:=HC.out.slice
 have k0:=HC.out.box.cell 1 rfl
 have kl:=HC.out.box.lt
 have kl2:p<W.heap.size:=kl
 have k02:W.cell? ⟨p,1,none⟩=some (.slice A s.length cp):=k0
 go_wp2_with fail
 refine wp_region_any (by kernel_rfl) ?_
 try (change wpAny _ _ _ _ _ _ _ (World.drew _))
 refine wpAny_take (i:=0) (v:=?_) rfl (by kernel_rfl) (by kernel_rfl) (by kernel_rfl) (fun _ _ _ h=>h) (Or.inl ⟨by rfl,?_⟩) ?_
 rotate_left 1
 ·intro w
  go_simp<;>with_reducible rfl
 refine wpAny_take (i:=1) (v:=?_) rfl (by kernel_rfl) (by kernel_rfl) (by kernel_rfl) (fun _ _ _ h=>h) (Or.inl ⟨by rfl,?_⟩) ?_
 rotate_left 1
 ·intro w
  go_simp<;>with_reducible rfl
 refine wpAny_take (i:=2) (v:=?_) rfl (by kernel_rfl) (by kernel_rfl) (by kernel_rfl) (fun _ _ _ h=>h) (Or.inl ⟨by rfl,?_⟩) ?_
 rotate_left 1
 ·intro w
  go_simp<;>with_reducible rfl
 refine wpAny_take (i:=3) (v:=?_) rfl (by kernel_rfl) (by kernel_rfl) (by kernel_rfl) (fun _ _ _ h=>h) (Or.inl ⟨by rfl,?_⟩) ?_
 rotate_left 1
 ·intro w
  go_simp<;>with_reducible rfl
 refine wpAny_ready (rs:=[4,5]) (by kernel_rfl) (by simp) ?_
 refine AllReady.cons rfl (fun K hK=>?_) ?_
 ·skip
  go_simp
  refine hK _ _ ?_
  clear hK K
  refine wpAny_ready (rs:=[5]) (by kernel_rfl) (by simp) ?_
  refine AllReady.cons rfl (fun K hK=>?_) ?_
  ·skip
   go_simp
   refine hK _ _ ?_
   clear hK K
   refine wpAny_ready (rs:=[6]) (by kernel_rfl) (by simp) ?_
   refine AllReady.cons rfl (fun K hK=>?_) ?_
   ·skip
    go_simp
    refine hK _ _ ?_
    clear hK K
    refine wpAny_ready (rs:=[7]) (by kernel_rfl) (by simp) ?_
    refine AllReady.cons rfl (fun K hK=>?_) ?_
    ·skip
     obtain ⟨v2,wb,hr,hC2,r0,r1,r2,hoth⟩:=LR.run HC.out q hl 67
     obtain ⟨A2,c2,hv2⟩:=hC2.slice
     obtain ⟨n2,hn2⟩:∃n2,n2=(s++[q]).length:=⟨_,rfl⟩
     rw [←hn2] at hv2
     clear hn2
     subst hv2
     have HC2:=qd hC2
     have HO2:=qd (HO.out.trans hoth)
     refine op_append (.tmp 10) (.tmp 12) 67 rfl _ _ _ wb rfl rfl hr ?_
     refine hK _ _ ?_
     clear hK K hr hC2 k0 kl kl2 k02 hoth
     refine wpAny_take (i:=8) (v:=?_) rfl (by kernel_rfl) (by kernel_rfl) (by kernel_rfl) (fun _ _ _ h=>h) (Or.inl ⟨by rfl,?_⟩) ?_
     rotate_left 1
     ·intro w
      go_simp<;>with_reducible rfl
     refine wpAny_take (i:=9) (v:=?_) rfl (by kernel_rfl) (by kernel_rfl) (by kernel_rfl) (fun _ _ _ h=>h) (Or.inl ⟨by rfl,?_⟩) ?_
     rotate_left 1
     ·intro w
      go_simp<;>with_reducible rfl
     refine wpAny_ready (rs:=[10]) (by kernel_rfl) (by simp) ?_
     refine AllReady.cons rfl (fun K hK=>?_) ?_
     ·skip
      go_simp
      refine hK _ _ ?_
      clear hK K
      refine wpAny_done (by kernel_rfl) ?_ _
      go_wp2_with fail
      go_end0
      exact ⟨rfl,_,HC2.out,HO2.out⟩
     exact AllReady.nil
    exact AllReady.nil
   exact AllReady.nil
  exact AllReady.nil
 refine AllReady.cons rfl (fun K hK=>?_) ?_
 ·skip
  go_simp
  refine hK _ _ ?_
  clear hK K
  refine wpAny_ready (rs:=[4,6]) (by kernel_rfl) (by simp) ?_
  refine AllReady.cons rfl (fun K hK=>?_) ?_
  ·skip
   go_simp
   refine hK _ _ ?_
   clear hK K
   refine wpAny_ready (rs:=[6]) (by kernel_rfl) (by simp) ?_
   refine AllReady.cons rfl (fun K hK=>?_) ?_
   ·skip
    go_simp
    refine hK _ _ ?_
    clear hK K
    refine wpAny_ready (rs:=[7]) (by kernel_rfl) (by simp) ?_
    refine AllReady.cons rfl (fun K hK=>?_) ?_
    ·skip
     obtain ⟨v2,wb,hr,hC2,r0,r1,r2,hoth⟩:=LR.run HC.out q hl 67
     obtain ⟨A2,c2,hv2⟩:=hC2.slice
     obtain ⟨n2,hn2⟩:∃n2,n2=(s++[q]).length:=⟨_,rfl⟩
     rw [←hn2] at hv2
     clear hn2
     subst hv2
     have HC2:=qd hC2
     have HO2:=qd (HO.out.trans hoth)
     refine op_append (.tmp 10) (.tmp 12) 67 rfl _ _ _ wb rfl rfl hr ?_
     refine hK _ _ ?_
     clear hK K hr hC2 k0 kl kl2 k02 hoth
     refine wpAny_take (i:=8) (v:=?_) rfl (by kernel_rfl) (by kernel_rfl) (by kernel_rfl) (fun _ _ _ h=>h) (Or.inl ⟨by rfl,?_⟩) ?_
     rotate_left 1
     ·intro w
      go_simp<;>with_reducible rfl
     refine wpAny_take (i:=9) (v:=?_) rfl (by kernel_rfl) (by kernel_rfl) (by kernel_rfl) (fun _ _ _ h=>h) (Or.inl ⟨by rfl,?_⟩) ?_
     rotate_left 1
     ·intro w
      go_simp<;>with_reducible rfl
     refine wpAny_ready (rs:=[10]) (by kernel_rfl) (by simp) ?_
     refine AllReady.cons rfl (fun K hK=>?_) ?_
     ·skip
      go_simp
      refine hK _ _ ?_
      clear hK K
      refine wpAny_done (by kernel_rfl) ?_ _
      go_wp2_with fail
      go_end0
      exact ⟨rfl,_,HC2.out,HO2.out⟩
     exact AllReady.nil
    exact AllReady.nil
   exact AllReady.nil
  refine AllReady.cons rfl (fun K hK=>?_) ?_
  ·skip
   go_simp
   refine hK _ _ ?_
   clear hK K
   refine wpAny_ready (rs:=[4]) (by kernel_rfl) (by simp) ?_
   refine AllReady.cons rfl (fun K hK=>?_) ?_
   ·skip
    go_simp
    refine hK _ _ ?_
    clear hK K
    refine wpAny_ready (rs:=[7]) (by kernel_rfl) (by simp) ?_
    refine AllReady.cons rfl (fun K hK=>?_) ?_
    ·skip
     obtain ⟨v2,wb,hr,hC2,r0,r1,r2,hoth⟩:=LR.run HC.out q hl 67
     obtain ⟨A2,c2,hv2⟩:=hC2.slice
     obtain ⟨n2,hn2⟩:∃n2,n2=(s++[q]).length:=⟨_,rfl⟩
     rw [←hn2] at hv2
     clear hn2
     subst hv2
     have HC2:=qd hC2
     have HO2:=qd (HO.out.trans hoth)
     refine op_append (.tmp 10) (.tmp 12) 67 rfl _ _ _ wb rfl rfl hr ?_
     refine hK _ _ ?_
     clear hK K hr hC2 k0 kl kl2 k02 hoth
     refine wpAny_take (i:=8) (v:=?_) rfl (by kernel_rfl) (by kernel_rfl) (by kernel_rfl) (fun _ _ _ h=>h) (Or.inl ⟨by rfl,?_⟩) ?_
     rotate_left 1
     ·intro w
      go_simp<;>with_reducible rfl
     refine wpAny_take (i:=9) (v:=?_) rfl (by kernel_rfl) (by kernel_rfl) (by kernel_rfl) (fun _ _ _ h=>h) (Or.inl ⟨by rfl,?_⟩) ?_
     rotate_left 1
     ·intro w
      go_simp<;>with_reducible rfl
     refine wpAny_ready (rs:=[10]) (by kernel_rfl) (by simp) ?_
     refine AllReady.cons rfl (fun K hK=>?_) ?_
     ·skip
      go_simp
      refine hK _ _ ?_
      clear hK K
      refine wpAny_done (by kernel_rfl) ?_ _
      go_wp2_with fail
      go_end0
      exact ⟨rfl,_,HC2.out,HO2.out⟩
     exact AllReady.nil
    exact AllReady.nil
   exact AllReady.nil
  exact AllReady.nil
 exact AllReady.nil
section
variable {w0 w:World} {p B:Nat} {v:Value} {k d:Nat} {s:List PtM}
theorem lhere_any (x:Nat)(h:LR w0 w p B v k d s)(hl:s.length≤500000) :
  Calls Tryz.prog 51 #[.pointer (some ⟨p,0,none⟩),.int .i64 x] w (LQ w0 w p B k d (s++[hereP x])):=by
 have HA:=qd (ladd_any w0 w p B v k d s (hereP x) h hl)
 go_enter Tryz.func51,Tryz.ntmps51
 go_wp2_with fail
 refine HA.out.mono ?_
 rintro e w1 ⟨rfl,hb⟩
 have HB:=qd hb
 clear hb
 go_wp2_with fail
 go_end0
 exact ⟨rfl,HB.out⟩
theorem lplain_any (i:Ins)(h:LR w0 w p B v k d s)(hl:s.length≤500000) :
  Calls Tryz.prog 93 #[.pointer (some ⟨p,0,none⟩),.agg #[.int .u16 i.c,.int .u8 i.t,.int .u8 i.f,.int .u32 i.k]] w (LQ w0 w p B k d (s++[⟨2,0,0,i⟩])):=by
 have hb0:=oneb w (.cells #[.int .u16 i.c,.int .u8 i.t,.int .u8 i.f,.int .u32 i.k] 76)
 have HA:=qd (ladd_any w0 _ p B v k d s ⟨2,0,0,i⟩ (h.below hb0) hl)
 have HO:=qd (show Oth p w _ from Oth.of hb0)
 clear hb0 h
 go_enter Tryz.func93,Tryz.ntmps93
 go_wp2_with fail
 refine HA.out.mono ?_
 rintro e w1 ⟨rfl,v2,hb,ho⟩
 have HB:=qd hb
 have HO:=qd (HO.out.trans ho)
 clear hb ho
 go_wp2_with fail
 go_end0
 exact ⟨rfl,v2,HB.out,HO.out⟩
theorem lif_any (how K y n:Nat)(hh:how=16∨how=32∨how=48)(h:LR w0 w p B v k d s)(hl:s.length≤500000) :
  Calls Tryz.prog 96 #[.pointer (some ⟨p,0,none⟩),.int .u16 how,.int .u32 K,.int .i64 y,.int .i64 n] w (LQ w0 w p B k d (s++[ifC (how+5) K y n])):=by
 have HI:=qd (fun W=>if_of (how:Int) (K:Int) 0 0 ((how+5:Nat):Int) W (by rcases hh with rfl|rfl|rfl<;>decide))
 have HA:=qd (fun W (hb:Below w.heap.size w W)=>ladd_any w0 W p B v k d s (ifC (how+5) K y n) (h.below hb) hl)
 obtain ⟨cc,hcc⟩:∃c,c=how+5:=⟨_,rfl⟩
 rw [←hcc] at HI HA ⊢
 clear h hcc hh
 go_enter Tryz.func96,Tryz.ntmps96
 go_wp2_with fail
 refine (HI.out _).mono ?_
 rintro e w1 ⟨rfl,hb⟩
 have HA1:=qd (HA.out _ hb)
 have HO:=qd (show Oth p w _ from Oth.of hb)
 clear hb HA
 go_wp2_with fail
 refine HA1.out.mono ?_
 rintro e w2 ⟨rfl,v2,hb,ho⟩
 have HB:=qd hb
 have HO:=qd (HO.out.trans ho)
 clear hb ho
 go_wp2_with fail
 go_end0
 exact ⟨rfl,v2,HB.out,HO.out⟩
theorem lnew_any (h:LR w0 w p B v k d s)(hk:k≤500000) :
  Calls Tryz.prog 49 #[.pointer (some ⟨p,0,none⟩)] w fun e w'=>e=.returned (.int .i64 ((k+1:Nat):Int))∧LR w0 w' p B v (k+1) d s∧Oth p w w':=by
 obtain ⟨k1,hk1⟩:∃k1,k1=k+1:=⟨_,rfl⟩
 have e1:(k:Int)+1=k1:=by omega
 rw [←hk1]
 have k0:=h.box.cell 0 rfl
 have kf:=h.box.fz 0
 have kl:=h.box.lt
 have HC:=qd (h.named k1)
 have HO:=qd (Oth.set w p 0 (.int .i64 k1))
 have hptr:∀w:World,(binOp .eql 211 (.pointer (some ⟨p,0,none⟩)) (.pointer none)).run Tryz.prog w=.ok (.bool false) w:=fun w=>by kernel_rfl
 clear h hk1
 go_enter Tryz.func49,Tryz.ntmps49
 go_wp2_with fail
 go_ret
 exact ⟨rfl,HC.out,HO.out⟩
theorem lparts_any (h:LR w0 w p B v k d s)(hl:s.length≤65000) :
  Calls Tryz.prog 54 #[.pointer (some ⟨p,0,none⟩)] w (ClP s w):=by
 obtain ⟨A,cp,rfl⟩:=h.slice
 have k1:=h.box.cell 1 rfl
 have kl:=h.box.lt
 have HRd:Hid (Rd w 7 s.length A (s.flatMap PtM.cells)):=by obtain ⟨A9,c9,e,_,h,_⟩:=own_typed h.row;cases e;exact qd h.rd
 have HCl:=qd (Ju.clone_any s s.length A cp w rfl HRd.out (by omega) (rd_nil HRd.out))
 have hptr:∀w:World,(binOp .eql 211 (.pointer (some ⟨p,0,none⟩)) (.pointer none)).run Tryz.prog w=.ok (.bool false) w:=fun w=>by kernel_rfl
 obtain ⟨z,hz⟩:∃z,z=s.length:=⟨_,rfl⟩
 rw [←hz] at k1 HCl
 clear h hz
 go_enter Tryz.func54,Tryz.ntmps54
 go_wp2_with fail
 refine HCl.out.mono ?_
 rintro e w1 ⟨A1,c1,rfl,hr1,hb1⟩
 have HR:=qd (And.intro hr1 hb1)
 clear hr1 hb1
 go_wp2_with fail
 go_ret
 exact ⟨A1,c1,rfl,HR.out.1,HR.out.2⟩
end
end Go.Proofs.YtcnebdjhhfnmoaaGreatDoor.Lo
namespace Go.Proofs.YtcnebdjhhfnmoaaGreatDoor.Lo
open Go.RowKit Go.Maps Go.WideMaps Go.WideElems Go.ChangeMaps Go.Proofs.YtcnebdjhhfnmoaaGreatDoor.Ju Go.Proofs.YtcnebdjhhfnmoaaGreatDoor.Me
theorem mask_of (k:Int)(w:World):Calls Tryz.prog 95 #[.int .u32 k] w fun e w'=>e=.returned (.agg #[.int .u16 84,.int .u8 0,.int .u8 0,.int .u32 k])∧Below w.heap.size w w':=by
 go_enter Tryz.func95,Tryz.ntmps95
 go_wp2
 exact bodyPost_ret (v:=.agg #[.int .u16 84,.int .u8 0,.int .u8 0,.int .u32 k]) (by simp [results,Tryz.results95,go_sem]) rfl ⟨rfl,(Below.refl _ _).alloc (Nat.le_refl _) _⟩
theorem low_any (n:Nat)(w:World):Calls Tryz.prog 201 #[.int .u64 n] w fun e w'=>e=.returned (.int .u32 ((n%4294967296:Nat):Int))∧w=w':=by
 obtain ⟨l,hl⟩:∃l,l=n%4294967296:=⟨_,rfl⟩
 have e1:(n:Int)%4294967296=l:=by omega
 have E1:=qd e1
 rw [←hl]
 clear hl e1
 go_enter Tryz.func201,Tryz.ntmps201
 go_wp2_with fail
 go_ret
 exact ⟨congrArg (fun z=>Ending.returned (Value.int .u32 z)) E1.out,rfl⟩
theorem high_any (n:Nat)(w:World)(hn:n<18446744073709551616):Calls Tryz.prog 203 #[.int .u64 n] w fun e w'=>e=.returned (.int .u32 ((n / 4294967296:Nat):Int))∧w=w':=by
 obtain ⟨l,hl⟩:∃l,l=n / 4294967296:=⟨_,rfl⟩
 have e1:(n:Int) / 4294967296=l:=by omega
 have l1:l<4294967296:=by omega
 rw [←hl]
 clear hl hn
 go_enter Tryz.func203,Tryz.ntmps203
 go_wp2_with fail
 go_ret
 exact ⟨rfl,rfl⟩
theorem settled_any (how l:Nat)(w:World)(hh:how=32∨how=48):Calls Tryz.prog 204 #[.int .u16 how,.int .u32 l] w fun e w'=>e=.returned (.bool (decide (setB how l)))∧w=w':=by
 rcases hh with rfl|rfl
 ·have e:decide (setB 32 l)=((l:Int)==4294967295):=by
   rw [Bool.eq_iff_iff,decide_eq_true_eq,beq_iff_eq];unfold setB;rw [if_neg (by decide)];omega
  rw [e]
  clear e
  go_enter Tryz.func204,Tryz.ntmps204
  go_wp2_with fail
  go_ret
  exact ⟨rfl,rfl⟩
 ·have e:decide (setB 48 l)=((l:Int)==0):=by
   rw [Bool.eq_iff_iff,decide_eq_true_eq,beq_iff_eq];unfold setB;rw [if_pos rfl];omega
  rw [e]
  clear e
  go_enter Tryz.func204,Tryz.ntmps204
  go_wp2_with fail
  go_ret
  exact ⟨rfl,rfl⟩
section
variable {w0 w:World} {p B:Nat} {v:Value} {k d:Nat} {s:List PtM}
theorem LQ.out {w0 w w':World}{p B k d:Nat}{s:List PtM}{e:Ending}(h:LQ w0 w p B k d s e w'):e=.returned (.tuple #[])∧∃v2,LR w0 w' p B v2 k d s∧Oth p w w':=h
theorem says_any (a:Nat)(h:LR w0 w p B v k d s)(hl:s.length≤400000) :
  Calls Tryz.prog 52 #[.pointer (some ⟨p,0,none⟩),.int .u32 a] w (LQ w0 w p B k d (s++[retP a])):=by
 have HL:=qd h
 have HO:=qd (Oth.refl p w)
 clear h
 go_enter Tryz.func52,Tryz.ntmps52
 go_wp2_with fail
 go_region_with (first|(go_at_call 27;refine (return_of _ _).mono ?_;rintro e w1 ⟨rfl,hb1⟩;have HL1:=qd (HL.out.below ((Below.refl _ _).drew.trans hb1));have HO1:=qd (HO.out.trans (Oth.of ((Below.refl _ _).drew.trans hb1)));clear hb1)|(go_at_call 93;refine (lplain_any ⟨6,0,0,a⟩ HL1.out (by first|omega|(simp only [List.length_append,List.length_cons,List.length_nil];omega))).mono ?_;rintro e w2 ⟨rfl,v2,hr2,ho2⟩;have HL:=qd hr2;have HO:=qd (HO1.out.trans ho2);clear hr2 ho2 HL1 HO1))
 go_wp2_with fail
 go_end0
 exact ⟨rfl,_,HL.out,HO.out⟩
theorem bits_any (a m u y n:Nat)(h:LR w0 w p B v k d s)(hl:s.length≤400000) :
  Calls Tryz.prog 50 #[.pointer (some ⟨p,0,none⟩),.int .u32 a,.int .u32 m,.int .u32 u,.int .i64 y,.int .i64 n] w (LQ w0 w p B k d (s++bitsL a m u y n)):=by
 have HL:=qd h
 have HO:=qd (Oth.refl p w)
 clear h
 go_enter Tryz.func50,Tryz.ntmps50
 go_wp2_with fail
 go_region_with (first|(go_at_call 94;refine (load_of _ _).mono ?_;rintro e w1 ⟨rfl,hb1⟩;have HL1:=qd (HL.out.below ((Below.refl _ _).drew.trans hb1));have HO1:=qd (HO.out.trans (Oth.of ((Below.refl _ _).drew.trans hb1)));clear hb1)|(go_at_call 93;refine (lplain_any ⟨32,0,0,a⟩ HL1.out (by first|omega|(simp only [List.length_append,List.length_cons,List.length_nil];omega))).mono ?_;rintro e w2 ⟨rfl,v2,hr2,ho2⟩;have HL:=qd hr2;have HO:=qd (HO1.out.trans ho2);clear hr2 ho2 HL1 HO1))
 go_wp2_with fail
 go_region_with (first|(go_at_call 95;refine (mask_of _ _).mono ?_;rintro e w1 ⟨rfl,hb1⟩;have HL1:=qd (HL.out.below ((Below.refl _ _).drew.trans hb1));have HO1:=qd (HO.out.trans (Oth.of ((Below.refl _ _).drew.trans hb1)));clear hb1)|(go_at_call 93;refine (lplain_any ⟨84,0,0,m⟩ HL1.out (by first|omega|(simp only [List.length_append,List.length_cons,List.length_nil];omega))).mono ?_;rintro e w2 ⟨rfl,v2,hr2,ho2⟩;have HL:=qd hr2;have HO:=qd (HO1.out.trans ho2);clear hr2 ho2 HL1 HO1))
 go_wp2_with fail
 refine (lif_any 16 u y n (Or.inl rfl) HL.out (by first|omega|(simp only [List.length_append,List.length_cons,List.length_nil];omega))).mono ?_
 rintro e w5 ⟨rfl,v5,hr5,ho5⟩
 have HL:=qd hr5
 have HO:=qd (HO.out.trans ho5)
 clear hr5 ho5
 go_wp2_with fail
 go_end0
 exact ⟨rfl,_,by have:=HL.out;rw [List.append_assoc,List.append_assoc] at this;exact this,HO.out⟩
end
end Go.Proofs.YtcnebdjhhfnmoaaGreatDoor.Lo
namespace Go.Proofs.YtcnebdjhhfnmoaaGreatDoor.Lo
open Go.RowKit Go.Maps Go.WideMaps Go.WideElems Go.ChangeMaps Go.Proofs.YtcnebdjhhfnmoaaGreatDoor.Ju Go.Proofs.YtcnebdjhhfnmoaaGreatDoor.Me
section
variable {w0 w:World} {p B:Nat} {v:Value} {k d:Nat} {s:List PtM}
theorem equal_any (ag:Int)(a m u y n:Nat)(h:LR w0 w p B v k d s)(hl:s.length≤300000)(hk:k≤300000)(ha0:0≤ag)(ha6:ag<6)(ha:a=ag.toNat)(hm:m<18446744073709551616)(hu:u<18446744073709551616) :
  Calls Tryz.prog 190 #[.pointer (some ⟨p,0,none⟩),.int .i64 ag,.int .u64 m,.int .u64 u,.int .i64 y,.int .i64 n] w (LQ w0 w p B (equalL k a m u y n).2 d (s++(equalL k a m u y n).1)):=by
 have HL:=qd h
 have HO:=qd (Oth.refl p w)
 have earg:Rec.arg5 ag=a:=by rw [ha];unfold Rec.arg5;omega
 have HHi:=qd (fun W=>Rec.half_any ag true W)
 have HLo:=qd (fun W=>Rec.half_any ag false W)
 rw [earg] at HHi HLo
 have HF:=qd (show m%4294967296=0→equalL k a m u y n=(bitsL (16+8*a+4) (m / 4294967296) (u / 4294967296) y n,k) from fun e=>by unfold equalL;rw [if_pos e])
 have HG:=qd (show m%4294967296≠0→equalL k a m u y n=(bitsL (16+8*a+4) (m / 4294967296) (u / 4294967296) (k+1) n++hereP (k+1)::bitsL (16+8*a) (m%4294967296) (u%4294967296) y n,k+1) from fun e=>by unfold equalL;rw [if_neg e])
 obtain ⟨EQ,hEQ⟩:∃z,z=equalL k a m u y n:=⟨_,rfl⟩
 rw [←hEQ] at HF HG ⊢
 clear hEQ
 have Hlm:=qd (fun W=>low_any m W)
 have Hhm:=qd (fun W=>high_any m W hm)
 have Hlu:=qd (fun W=>low_any u W)
 have Hhu:=qd (fun W=>high_any u W hu)
 obtain ⟨ml,hml⟩:∃z,z=m%4294967296:=⟨_,rfl⟩
 obtain ⟨mh,hmh⟩:∃z,z=m / 4294967296:=⟨_,rfl⟩
 obtain ⟨ul,hul⟩:∃z,z=u%4294967296:=⟨_,rfl⟩
 obtain ⟨uh,huh⟩:∃z,z=u / 4294967296:=⟨_,rfl⟩
 rw [←hml] at HF HG Hlm
 rw [←hmh] at HF HG Hhm
 rw [←hul] at HG Hlu
 rw [←huh] at HF HG Hhu
 obtain ⟨ah,hah⟩:∃z,z=16+8*a+4:=⟨_,rfl⟩
 obtain ⟨al,hal⟩:∃z,z=16+8*a:=⟨_,rfl⟩
 rw [←hah] at HF HG
 rw [←hal] at HG
 have HHj:=qd (show ∀W,Calls Tryz.prog 202 #[.int .i64 ag,.bool true] W fun e w'=>e=.returned (.int .u32 ah)∧W=w' by rw [hah];exact HHi.out)
 have HLj:=qd (show ∀W,Calls Tryz.prog 202 #[.int .i64 ag,.bool false] W fun e w'=>e=.returned (.int .u32 al)∧W=w' by rw [hal];exact HLo.out)
 clear h ha hm hu hml hmh hul huh hah hal earg ha0 ha6 HHi HLo
 go_enter Tryz.func190,Tryz.ntmps190
 go_wp2_with fail
 refine (Hlm.out _).mono ?_
 rintro e _ ⟨rfl,rfl⟩
 by_cases h0:ml=0
 ·have e0:((ml:Int)==0)=true:=by rw [h0];rfl
  have HQ:=qd (HF.out h0)
  clear h0 HF HG
  go_wp2_with fail
  refine (HHj.out _).mono ?_
  rintro e _ ⟨rfl,rfl⟩
  go_wp2_with fail
  refine (Hhm.out _).mono ?_
  rintro e _ ⟨rfl,rfl⟩
  go_wp2_with fail
  refine (Hhu.out _).mono ?_
  rintro e _ ⟨rfl,rfl⟩
  go_wp2_with fail
  refine (bits_any ah mh uh y n HL.out (by omega)).mono ?_
  rintro e w3 ⟨rfl,v3,hr3,ho3⟩
  have HL:=qd hr3
  have HO:=qd (HO.out.trans ho3)
  clear hr3 ho3
  go_wp2_with fail
  go_end0
  rw [HQ.out]
  exact ⟨rfl,_,HL.out,HO.out⟩
 ·have e0:((ml:Int)==0)=false:=by rw [beq_eq_false_iff_ne];omega
  have HQ:=qd (HG.out h0)
  clear h0 HF HG
  go_wp2_with fail
  refine (lnew_any HL.out (by omega)).mono ?_
  rintro e w2 ⟨rfl,hr2,ho2⟩
  have HL:=qd hr2
  have HO:=qd (HO.out.trans ho2)
  obtain ⟨k1,hk1⟩:∃k1,k1=k+1:=⟨_,rfl⟩
  rw [←hk1] at HL HQ ⊢
  clear hr2 ho2 hk1
  go_wp2_with fail
  refine (HHj.out _).mono ?_
  rintro e _ ⟨rfl,rfl⟩
  go_wp2_with fail
  refine (Hhm.out _).mono ?_
  rintro e _ ⟨rfl,rfl⟩
  go_wp2_with fail
  refine (Hhu.out _).mono ?_
  rintro e _ ⟨rfl,rfl⟩
  go_wp2_with fail
  refine (bits_any ah mh uh k1 n HL.out (by omega)).mono ?_
  rintro e w3 ⟨rfl,v3,hr3,ho3⟩
  have HL:=qd hr3
  have HO:=qd (HO.out.trans ho3)
  clear hr3 ho3
  go_wp2_with fail
  refine (lhere_any k1 HL.out (by unfold bitsL;simp only [List.length_append,List.length_cons,List.length_nil];omega)).mono ?_
  rintro e w4 ⟨rfl,v4,hr4,ho4⟩
  have HL:=qd hr4
  have HO:=qd (HO.out.trans ho4)
  clear hr4 ho4
  go_wp2_with fail
  refine (HLj.out _).mono ?_
  rintro e _ ⟨rfl,rfl⟩
  go_wp2_with fail
  refine (Hlm.out _).mono ?_
  rintro e _ ⟨rfl,rfl⟩
  go_wp2_with fail
  refine (Hlu.out _).mono ?_
  rintro e _ ⟨rfl,rfl⟩
  go_wp2_with fail
  refine (bits_any al ml ul y n HL.out (by unfold bitsL;simp only [List.length_append,List.length_cons,List.length_nil];omega)).mono ?_
  rintro e w5 ⟨rfl,v5,hr5,ho5⟩
  have HL:=qd hr5
  have HO:=qd (HO.out.trans ho5)
  clear hr5 ho5
  go_wp2_with fail
  go_end0
  rw [HQ.out]
  exact ⟨rfl,_,by have:=HL.out;simpa using this,HO.out⟩
end
end Go.Proofs.YtcnebdjhhfnmoaaGreatDoor.Lo
namespace Go.Proofs.YtcnebdjhhfnmoaaGreatDoor.Lo
open Go.RowKit Go.Maps Go.WideMaps Go.WideElems Go.ChangeMaps Go.Proofs.YtcnebdjhhfnmoaaGreatDoor.Ju Go.Proofs.YtcnebdjhhfnmoaaGreatDoor.Me
section
variable {w0 w:World} {p B:Nat} {v:Value} {k d:Nat} {s:List PtM}
theorem lnew_to {k1:Nat}(h:LR w0 w p B v k d s)(hk:k≤500000)(h1:k1=k+1) :
  Calls Tryz.prog 49 #[.pointer (some ⟨p,0,none⟩)] w fun e w'=>e=.returned (.int .i64 k1)∧LR w0 w' p B v k1 d s∧Oth p w w':=by
 subst h1;exact lnew_any h hk
theorem above_any (ag:Int)(a how u y n:Nat)(h:LR w0 w p B v k d s)(hl:s.length≤300000)(hk:k≤300000)(hh:how=32∨how=48)(ha0:0≤ag)(ha6:ag<6)(ha:a=ag.toNat)(hu:u<18446744073709551616) :
  Calls Tryz.prog 191 #[.pointer (some ⟨p,0,none⟩),.int .i64 ag,.int .u16 how,.int .u64 u,.int .i64 y,.int .i64 n] w (LQ w0 w p B (aboveL k a how u y n).2 d (s++(aboveL k a how u y n).1)):=by
 have HL:=qd h
 have HO:=qd (Oth.refl p w)
 have earg:Rec.arg5 ag=a:=by rw [ha];unfold Rec.arg5;omega
 have HHi:=qd (fun W=>Rec.half_any ag true W)
 have HLo:=qd (fun W=>Rec.half_any ag false W)
 rw [earg] at HHi HLo
 have HF:=qd (show setB how (u%4294967296)→aboveL k a how u y n=([loadP (16+8*a+4),ifC (how+5) (u / 4294967296) y n],k) from fun e=>by unfold aboveL;rw [if_pos e])
 have HG:=qd (show ¬setB how (u%4294967296)→aboveL k a how u y n=([loadP (16+8*a+4),ifC 37 (u / 4294967296) y (k+1),hereP (k+1),ifC 21 (u / 4294967296) (k+2) n,hereP (k+2),loadP (16+8*a),ifC (how+5) (u%4294967296) y n],k+2) from fun e=>by unfold aboveL;rw [if_neg e])
 obtain ⟨EQ,hEQ⟩:∃z,z=aboveL k a how u y n:=⟨_,rfl⟩
 rw [←hEQ] at HF HG ⊢
 clear hEQ
 have Hlu:=qd (fun W=>low_any u W)
 have Hhu:=qd (fun W=>high_any u W hu)
 have HSt:=qd (fun W=>settled_any how (u%4294967296) W hh)
 obtain ⟨ul,hul⟩:∃z,z=u%4294967296:=⟨_,rfl⟩
 obtain ⟨uh,huh⟩:∃z,z=u / 4294967296:=⟨_,rfl⟩
 rw [←hul] at HF HG Hlu HSt
 rw [←huh] at HF HG Hhu
 obtain ⟨ah,hah⟩:∃z,z=16+8*a+4:=⟨_,rfl⟩
 obtain ⟨al,hal⟩:∃z,z=16+8*a:=⟨_,rfl⟩
 rw [←hah] at HF HG
 rw [←hal] at HG
 have HHj:=qd (show ∀W,Calls Tryz.prog 202 #[.int .i64 ag,.bool true] W fun e w'=>e=.returned (.int .u32 ah)∧W=w' by rw [hah];exact HHi.out)
 have HLj:=qd (show ∀W,Calls Tryz.prog 202 #[.int .i64 ag,.bool false] W fun e w'=>e=.returned (.int .u32 al)∧W=w' by rw [hal];exact HLo.out)
 have HH:=qd (show how=16∨how=32∨how=48 from Or.inr hh)
 obtain ⟨k1,hk1⟩:∃z,z=k+1:=⟨_,rfl⟩
 obtain ⟨k2,hk2⟩:∃z,z=k1+1:=⟨_,rfl⟩
 have HG:=qd (show ¬setB how ul→EQ=([loadP ah,ifC 37 uh y k1,hereP k1,ifC 21 uh k2 n,hereP k2,loadP al,ifC (how+5) ul y n],k2) by rw [hk2,hk1];exact HG.out)
 have HK1:=qd hk1
 have HK2:=qd hk2
 have hk1b:k1≤300001:=by omega
 clear h ha hu hul huh hah hal earg ha0 ha6 HHi HLo hh hk1 hk2
 by_cases hs:setB how ul
 ·have HQ:=qd (HF.out hs)
  rw [show decide (setB how ul)=true from by simpa using hs] at HSt
  clear HF HG hs
  go_enter Tryz.func191,Tryz.ntmps191
  go_wp2_with fail
  go_region_with (first|(go_at_call 202;refine (HHj.out _).mono ?_;rintro e _ ⟨rfl,rfl⟩)|(go_at_call 94;refine (load_of _ _).mono ?_;rintro e w1 ⟨rfl,hb1⟩;have HL1:=qd (HL.out.below ((Below.refl _ _).drew.trans hb1));have HO1:=qd (HO.out.trans (Oth.of ((Below.refl _ _).drew.trans hb1)));clear hb1)|(go_at_call 93;refine (lplain_any ⟨32,0,0,ah⟩ HL1.out (by first|omega|(simp only [List.length_append,List.length_cons,List.length_nil];omega))).mono ?_;rintro e w2 ⟨rfl,v2,hr2,ho2⟩;have HL:=qd hr2;have HO:=qd (HO1.out.trans ho2);clear hr2 ho2 HL1 HO1))
  go_wp2_with fail
  refine (Hlu.out _).mono ?_
  rintro e _ ⟨rfl,rfl⟩
  go_wp2_with fail
  refine (HSt.out _).mono ?_
  rintro e _ ⟨rfl,rfl⟩
  go_wp2_with fail
  go_region_with (first|(go_at_call 203;refine (Hhu.out _).mono ?_;rintro e _ ⟨rfl,rfl⟩)|(go_at_call 96;refine (lif_any how uh y n HH.out (HL.out.below (Below.refl _ _).drew) (by first|omega|(simp only [List.length_append,List.length_cons,List.length_nil];omega))).mono ?_;rintro e w2 ⟨rfl,v2,hr2,ho2⟩;have HL9:=qd hr2;have HO9:=qd ((HO.out.trans (Oth.of (Below.refl _ _).drew)).trans ho2);clear hr2 ho2 HL HO;have HL:=HL9;have HO:=HO9;clear HL9 HO9))
  go_wp2_with fail
  go_end0
  rw [HQ.out]
  exact ⟨rfl,_,by have:=HL.out;rw [List.append_assoc] at this;exact this,HO.out⟩
 ·have HQ:=qd (HG.out hs)
  rw [show decide (setB how ul)=false from by simpa using hs] at HSt
  clear HF HG hs
  go_enter Tryz.func191,Tryz.ntmps191
  go_wp2_with fail
  go_region_with (first|(go_at_call 202;refine (HHj.out _).mono ?_;rintro e _ ⟨rfl,rfl⟩)|(go_at_call 94;refine (load_of _ _).mono ?_;rintro e w1 ⟨rfl,hb1⟩;have HL1:=qd (HL.out.below ((Below.refl _ _).drew.trans hb1));have HO1:=qd (HO.out.trans (Oth.of ((Below.refl _ _).drew.trans hb1)));clear hb1)|(go_at_call 93;refine (lplain_any ⟨32,0,0,ah⟩ HL1.out (by first|omega|(simp only [List.length_append,List.length_cons,List.length_nil];omega))).mono ?_;rintro e w2 ⟨rfl,v2,hr2,ho2⟩;have HL:=qd hr2;have HO:=qd (HO1.out.trans ho2);clear hr2 ho2 HL1 HO1))
  go_wp2_with fail
  refine (Hlu.out _).mono ?_
  rintro e _ ⟨rfl,rfl⟩
  go_wp2_with fail
  refine (HSt.out _).mono ?_
  rintro e _ ⟨rfl,rfl⟩
  go_wp2_with fail
  go_region_with (go_at_call 49;first|(refine (lnew_to HLn.out (by omega) HK2.out).mono ?_;rintro e w3 ⟨rfl,hr3,ho3⟩;have HL:=qd hr3;have HO:=qd (HOn.out.trans ho3);clear hr3 ho3 HLn HOn)|(refine (lnew_to (HL.out.below (Below.refl _ _).drew) (by omega) HK1.out).mono ?_;rintro e w2 ⟨rfl,hr2,ho2⟩;have HLn:=qd hr2;have HOn:=qd ((HO.out.trans (Oth.of (Below.refl _ _).drew)).trans ho2);clear hr2 ho2))
  go_wp2_with fail
  go_region_with (first|(go_at_call 203;refine (Hhu.out _).mono ?_;rintro e _ ⟨rfl,rfl⟩)|(go_at_call 96;refine (lif_any 32 uh y k1 (Or.inr (Or.inl rfl)) (HL.out.below (Below.refl _ _).drew) (by first|omega|(simp only [List.length_append,List.length_cons,List.length_nil];omega))).mono ?_;rintro e w2 ⟨rfl,v2,hr2,ho2⟩;have HL9:=qd hr2;have HO9:=qd ((HO.out.trans (Oth.of (Below.refl _ _).drew)).trans ho2);clear hr2 ho2 HL HO;have HL:=HL9;have HO:=HO9;clear HL9 HO9))
  go_wp2_with fail
  refine (lhere_any k1 HL.out (by first|omega|(simp only [List.length_append,List.length_cons,List.length_nil];omega))).mono ?_
  rintro e w4 ⟨rfl,v4,hr4,ho4⟩
  have HL:=qd hr4
  have HO:=qd (HO.out.trans ho4)
  clear hr4 ho4
  go_wp2_with fail
  go_region_with (first|(go_at_call 203;refine (Hhu.out _).mono ?_;rintro e _ ⟨rfl,rfl⟩)|(go_at_call 96;refine (lif_any 16 uh k2 n (Or.inl rfl) (HL.out.below (Below.refl _ _).drew) (by first|omega|(simp only [List.length_append,List.length_cons,List.length_nil];omega))).mono ?_;rintro e w2 ⟨rfl,v2,hr2,ho2⟩;have HL9:=qd hr2;have HO9:=qd ((HO.out.trans (Oth.of (Below.refl _ _).drew)).trans ho2);clear hr2 ho2 HL HO;have HL:=HL9;have HO:=HO9;clear HL9 HO9))
  go_wp2_with fail
  refine (lhere_any k2 HL.out (by first|omega|(simp only [List.length_append,List.length_cons,List.length_nil];omega))).mono ?_
  rintro e w4 ⟨rfl,v4,hr4,ho4⟩
  have HL:=qd hr4
  have HO:=qd (HO.out.trans ho4)
  clear hr4 ho4
  go_wp2_with fail
  go_region_with (first|(go_at_call 202;refine (HLj.out _).mono ?_;rintro e _ ⟨rfl,rfl⟩)|(go_at_call 94;refine (load_of _ _).mono ?_;rintro e w1 ⟨rfl,hb1⟩;have HL1:=qd (HL.out.below ((Below.refl _ _).drew.trans hb1));have HO1:=qd (HO.out.trans (Oth.of ((Below.refl _ _).drew.trans hb1)));clear hb1)|(go_at_call 93;refine (lplain_any ⟨32,0,0,al⟩ HL1.out (by first|omega|(simp only [List.length_append,List.length_cons,List.length_nil];omega))).mono ?_;rintro e w2 ⟨rfl,v2,hr2,ho2⟩;have HL:=qd hr2;have HO:=qd (HO1.out.trans ho2);clear hr2 ho2 HL1 HO1))
  go_wp2_with fail
  go_region_with (first|(go_at_call 201;refine (Hlu.out _).mono ?_;rintro e _ ⟨rfl,rfl⟩)|(go_at_call 96;refine (lif_any how ul y n HH.out (HL.out.below (Below.refl _ _).drew) (by first|omega|(simp only [List.length_append,List.length_cons,List.length_nil];omega))).mono ?_;rintro e w2 ⟨rfl,v2,hr2,ho2⟩;have HL9:=qd hr2;have HO9:=qd ((HO.out.trans (Oth.of (Below.refl _ _).drew)).trans ho2);clear hr2 ho2 HL HO;have HL:=HL9;have HO:=HO9;clear HL9 HO9))
  go_wp2_with fail
  go_end0
  rw [HQ.out]
  exact ⟨rfl,_,by have:=HL.out;simp only [List.append_assoc] at this;exact this,HO.out⟩
end
end Go.Proofs.YtcnebdjhhfnmoaaGreatDoor.Lo
