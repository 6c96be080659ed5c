/- Code that is being made: the small steps. -/
import Derived.Test.YtcnebdjhhfnmoaaGreatDoorL04
import Derived.Test.YtcnebdjhhfnmoaaGreatDoorL01
set_option maxHeartbeats 32000000
set_option maxRecDepth 100000
namespace Go.Proofs.YtcnebdjhhfnmoaaGreatDoor.Ju
open Go.RowKit Go.Maps Go.WideMaps Go.WideElems Go.ChangeMaps
theorem infoIn:(Tryz.prog.info? 76).map (fun i=>(i.zero,i.size,i.bytes))=some (some (.agg #[.int .u16 0,.int .u8 0,.int .u8 0,.int .u32 0]),4,8):=by kernel_rfl
theorem CR.run {w:World}{p m B:Nat}{v:Value}{c:CdM}(h:CR w p m B v c)(i:Ins)(hl:c.ins.length≤5000)(ty:TypeId) :
  ∃v' wb,(Builtin.append_ #[47,47] ty #[v,.slice (some ⟨w.heap.size,0,none⟩) 1 1]).run Tryz.prog (w.alloc (.cells #[.int .u16 i.c,.int .u8 i.t,.int .u8 i.f,.int .u32 i.k] 76))=.ok v' wb ∧
   CR (wb.setCell ⟨p,0,none⟩ v') p m B v' ⟨i::c.ins,c.bh⟩∧Fr p m v v' w (wb.setCell ⟨p,0,none⟩ v')∧wb.cell? ⟨p,0,none⟩=some v∧wb.frozen? ⟨p,0,none⟩=false∧p<wb.heap.size:=by
 obtain ⟨i0,hi,hz0,hz1,hz2⟩:=info_parts infoIn
 have hb:=oneb w (.cells #[.int .u16 i.c,.int .u8 i.t,.int .u8 i.f,.int .u32 i.k] 76)
 have hk:=h.below hb
 have hB:Bk (w.alloc (.cells #[.int .u16 i.c,.int .u8 i.t,.int .u8 i.f,.int .u32 i.k] 76)) w.heap.size 76 i.cells:=Bk.new w _ _ rfl
 obtain ⟨v',wb,hr,ho,hg,_,hat⟩:=run_append_own_at (P:=Tryz.prog) (w.alloc (.cells #[.int .u16 i.c,.int .u8 i.t,.int .u8 i.f,.int .u32 i.k] 76)) B 47 ty 76 i0 _ 4 8 Tryz.underlying47 hi hz0 hz1 hz2 rfl (by decide) v c.ins.length _ hk.row ⟨w.heap.size,0,none⟩ 1 1 i.cells (by rfl) (fun j u hu=>by rw [addr_at,Nat.zero_add];exact hB.cell j hu) (cells_one i) (by unfold maxLen;omega) (by omega) hk.le
 have hge:=own_ge hk.row
 have hle:=hk.le
 have hbox:Bk wb p 171 [v,.map (some m)]:=hk.box.grown hg (fun e=>by have:=(hge p e.symm).1;have:=h.pB;omega)
 have hmp:NMap wb 3 m (c.bh.map bhI):=hk.mp.grown hg (fun e=>by have:=(hge m e.symm).1;have:=h.mB;omega)
 have hs:=only_set wb p 0 v'
 have hpB:=h.pB
 have hmB:=h.mB
 have hge2:=own_ge ho
 refine ⟨v',wb,hr,⟨hbox.set 0 v',?_,hmp.grown hs (fun e=>by injection e with e;exact h.pm e.symm),h.pB,h.mB,h.pm,Nat.le_trans hle (Nat.le_trans hg.size hs.size)⟩,?_,hbox.cell 0 rfl,hbox.fz 0,hbox.lt⟩
 ·have:=own_keep ho hs (fun b hb e=>by have:=(hge2 b hb).1;omega)
  simpa using this
 ·refine ((Fr.of_below p m v hb).trans ?_).trans (Fr.grown v' hs (Or.inl rfl))
  exact ⟨hg.os,hg.tape,hg.output,hg.size,fun k hk1 _ _ h3=>hg.block k hk1 (fun e=>h3 e),hat.imp id fun e g hg2=>by rw [e] at hg2;injection hg2 with hg2;omega⟩
theorem far_b (w:World)(p m B:Nat)(v:Value)(c:CdM)(n:Int)(b:Nat)(h:CR w p m B v c)(h1:-9223372036854775808≤n)(h2:n≤9223372036854775807)(hb:lk n c.bh=some b)(hbl:b≤c.ins.length)(hl:c.ins.length≤5000) :
  Calls Tryz.prog 165 #[.pointer (some ⟨p,0,none⟩),.int .i64 n] w fun e w'=>e=.returned (.int .i64 ((c.ins.length-b:Nat):Int))∧Below w.heap.size w w':=
 (far_any w p m B v c n b h h1 h2 hb hbl hl).mono fun _ _ ⟨he,_,hw⟩=>⟨he,by rw [hw];exact below_drewN (Below.refl _ _) _⟩
def StepPost (p m B:Nat)(v:Value)(w:World)(en:Int)(c2:CdM)(e:Ending)(w':World):Prop:=e=.returned (.int .i64 en)∧∃v2,CR w' p m B v2 c2∧Fr p m v v2 w w'
theorem skip_any (w:World)(p m B:Nat)(v:Value)(c:CdM)(n:Int)(b:Nat)(h:CR w p m B v c)(h1:-9223372036854775808≤n)(h2:n≤9223372036854775807)(hb:lk n c.bh=some b)(hbl:b≤c.ins.length)(hl:c.ins.length≤5000) :
  Calls Tryz.prog 144 #[.pointer (some ⟨p,0,none⟩),.int .i64 n] w fun e w'=>e=.returned (.tuple #[])∧∃v2,CR w' p m B v2 ⟨skipI (c.ins.length-b)::c.ins,c.bh⟩∧Fr p m v v2 w w':=by
 have HC:=qd h.drew
 have HF:=qd (Fr.of_below p m v (Below.refl w.heap.size w).drew)
 have HFar:=qd (fun W (h:CR W p m B v c)=>far_b W p m B v c n b h h1 h2 hb hbl hl)
 obtain ⟨d,hd⟩:∃d,d=c.ins.length-b:=⟨_,rfl⟩
 have HSk:=qd (fun W=>skip_of (d:Int) W)
 rw [←hd] at HFar ⊢
 have hd5:d≤5000:=by omega
 have e1:IntKind.u32.wrap (d:Int)=(d:Int):=by rw [IntKind.wrap_u32];omega
 obtain ⟨A,cp,rfl⟩:=h.slice
 clear h hb hbl hd
 obtain ⟨k0,k1,kl,kf⟩:=HC.out.cells
 go_enter Tryz.func144,Tryz.ntmps144
 refine wp_region_any (by kernel_rfl) ?_
 try (change wpAny _ _ _ _ _ _ _ (World.drew _))
 refine wpAny_take (i:=0) (v:=?_) rfl (by kernel_rfl) (by kernel_rfl) (by kernel_rfl) (fun _ _ _ h=>h) (Or.inl ⟨by rfl,?_⟩) ?_
 rotate_left 1
 ·intro w
  go_simp<;>with_reducible rfl
 refine wpAny_take (i:=1) (v:=?_) rfl (by kernel_rfl) (by kernel_rfl) (by kernel_rfl) (fun _ _ _ h=>h) (Or.inl ⟨by rfl,?_⟩) ?_
 rotate_left 1
 ·intro w
  go_simp<;>with_reducible rfl
 refine wpAny_take (i:=2) (v:=?_) rfl (by kernel_rfl) (by kernel_rfl) (by kernel_rfl) (fun _ _ _ h=>h) (Or.inl ⟨by rfl,?_⟩) ?_
 rotate_left 1
 ·intro w
  go_simp<;>with_reducible rfl
 refine wpAny_take (i:=3) (v:=?_) rfl (by kernel_rfl) (by kernel_rfl) (by kernel_rfl) (fun _ _ _ h=>h) (Or.inl ⟨by rfl,?_⟩) ?_
 rotate_left 1
 ·intro w
  go_simp<;>with_reducible rfl
 refine wpAny_take (i:=5) (v:=?_) rfl (by kernel_rfl) (by kernel_rfl) (by kernel_rfl) (fun _ _ _ h=>h) (Or.inl ⟨by rfl,?_⟩) ?_
 rotate_left 1
 ·intro w
  go_simp<;>with_reducible rfl
 refine wpAny_take (i:=6) (v:=?_) rfl (by kernel_rfl) (by kernel_rfl) (by kernel_rfl) (fun _ _ _ h=>h) (Or.inl ⟨by rfl,?_⟩) ?_
 rotate_left 1
 ·intro w
  go_simp<;>with_reducible rfl
 refine wpAny_ready (rs:=[4,7]) (by kernel_rfl) (by simp) ?_
 refine AllReady.cons rfl (fun K hK=>?_) ?_
 ·skip
  go_simp
  refine hK _ _ ?_
  clear hK K
  refine wpAny_ready (rs:=[7]) (by kernel_rfl) (by simp) ?_
  refine AllReady.cons rfl (fun K hK=>?_) ?_
  ·skip
   go_simp
   refine (HFar.out _ HC.out).mono ?_
   rintro e w1 ⟨rfl,hb1⟩
   have HC1:=qd (HC.out.below hb1)
   have HF1:=qd (HF.out.trans (Fr.of_below _ _ _ hb1))
   clear k0 k1 kl kf hb1 HC HF
   have HC:=HC1
   have HF:=HF1
   clear HC1 HF1
   obtain ⟨k0,k1,kl,kf⟩:=HC.out.cells
   refine hK _ _ ?_
   clear hK K
   refine wpAny_ready (rs:=[8]) (by kernel_rfl) (by simp) ?_
   refine AllReady.cons rfl (fun K hK=>?_) ?_
   ·skip
    go_simp
    refine hK _ _ ?_
    clear hK K
    refine wpAny_ready (rs:=[9]) (by kernel_rfl) (by simp) ?_
    refine AllReady.cons rfl (fun K hK=>?_) ?_
    ·skip
     go_simp
     refine (HSk.out _).mono ?_
     rintro e w1 ⟨rfl,hb1⟩
     have HC1:=qd (HC.out.below hb1)
     have HF1:=qd (HF.out.trans (Fr.of_below _ _ _ hb1))
     clear k0 k1 kl kf hb1 HC HF
     have HC:=HC1
     have HF:=HF1
     clear HC1 HF1
     obtain ⟨k0,k1,kl,kf⟩:=HC.out.cells
     refine hK _ _ ?_
     clear hK K
     refine wpAny_ready (rs:=[10]) (by kernel_rfl) (by simp) ?_
     refine AllReady.cons rfl (fun K hK=>?_) ?_
     ·skip
      go_simp
      refine hK _ _ ?_
      clear hK K
      refine wpAny_ready (rs:=[11]) (by kernel_rfl) (by simp) ?_
      refine AllReady.cons rfl (fun K hK=>?_) ?_
      ·skip
       obtain ⟨v2,wb,hr,hC2,hF2,r0,r1,r2⟩:=CR.run HC.out (skipI d) hl 47
       obtain ⟨A2,c2,hv2⟩:=hC2.slice
       obtain ⟨n2,hn2⟩:∃n2,n2=(⟨(skipI d)::c.ins,c.bh⟩:CdM).ins.length:=⟨_,rfl⟩
       rw [←hn2] at hv2
       clear hn2
       subst hv2
       have HC2:=qd hC2
       have HF2:=qd (HF.out.trans hF2)
       refine op_append (.tmp 8) (.tmp 14) 47 rfl _ _ _ wb rfl rfl hr ?_
       refine hK _ _ ?_
       clear hK K hr hC2 hF2 k0 k1 kl kf
       refine wpAny_take (i:=12) (v:=?_) rfl (by kernel_rfl) (by kernel_rfl) (by kernel_rfl) (fun _ _ _ h=>h) (Or.inl ⟨by rfl,?_⟩) ?_
       rotate_left 1
       ·intro w
        go_simp<;>with_reducible rfl
       refine wpAny_take (i:=13) (v:=?_) rfl (by kernel_rfl) (by kernel_rfl) (by kernel_rfl) (fun _ _ _ h=>h) (Or.inl ⟨by rfl,?_⟩) ?_
       rotate_left 1
       ·intro w
        go_simp<;>with_reducible rfl
       refine wpAny_ready (rs:=[14]) (by kernel_rfl) (by simp) ?_
       refine AllReady.cons rfl (fun K hK=>?_) ?_
       ·skip
        go_simp
        refine hK _ _ ?_
        clear hK K
        refine wpAny_done (by kernel_rfl) ?_ _
        go_wp2_with fail
        go_end0
        exact ⟨rfl,_,HC2.out,HF2.out⟩
       exact AllReady.nil
      exact AllReady.nil
     exact AllReady.nil
    exact AllReady.nil
   exact AllReady.nil
  exact AllReady.nil
 refine AllReady.cons rfl (fun K hK=>?_) ?_
 ·skip
  go_simp
  refine (HFar.out _ HC.out).mono ?_
  rintro e w1 ⟨rfl,hb1⟩
  have HC1:=qd (HC.out.below hb1)
  have HF1:=qd (HF.out.trans (Fr.of_below _ _ _ hb1))
  clear k0 k1 kl kf hb1 HC HF
  have HC:=HC1
  have HF:=HF1
  clear HC1 HF1
  obtain ⟨k0,k1,kl,kf⟩:=HC.out.cells
  refine hK _ _ ?_
  clear hK K
  refine wpAny_ready (rs:=[4,8]) (by kernel_rfl) (by simp) ?_
  refine AllReady.cons rfl (fun K hK=>?_) ?_
  ·skip
   go_simp
   refine hK _ _ ?_
   clear hK K
   refine wpAny_ready (rs:=[8]) (by kernel_rfl) (by simp) ?_
   refine AllReady.cons rfl (fun K hK=>?_) ?_
   ·skip
    go_simp
    refine hK _ _ ?_
    clear hK K
    refine wpAny_ready (rs:=[9]) (by kernel_rfl) (by simp) ?_
    refine AllReady.cons rfl (fun K hK=>?_) ?_
    ·skip
     go_simp
     refine (HSk.out _).mono ?_
     rintro e w1 ⟨rfl,hb1⟩
     have HC1:=qd (HC.out.below hb1)
     have HF1:=qd (HF.out.trans (Fr.of_below _ _ _ hb1))
     clear k0 k1 kl kf hb1 HC HF
     have HC:=HC1
     have HF:=HF1
     clear HC1 HF1
     obtain ⟨k0,k1,kl,kf⟩:=HC.out.cells
     refine hK _ _ ?_
     clear hK K
     refine wpAny_ready (rs:=[10]) (by kernel_rfl) (by simp) ?_
     refine AllReady.cons rfl (fun K hK=>?_) ?_
     ·skip
      go_simp
      refine hK _ _ ?_
      clear hK K
      refine wpAny_ready (rs:=[11]) (by kernel_rfl) (by simp) ?_
      refine AllReady.cons rfl (fun K hK=>?_) ?_
      ·skip
       obtain ⟨v2,wb,hr,hC2,hF2,r0,r1,r2⟩:=CR.run HC.out (skipI d) hl 47
       obtain ⟨A2,c2,hv2⟩:=hC2.slice
       obtain ⟨n2,hn2⟩:∃n2,n2=(⟨(skipI d)::c.ins,c.bh⟩:CdM).ins.length:=⟨_,rfl⟩
       rw [←hn2] at hv2
       clear hn2
       subst hv2
       have HC2:=qd hC2
       have HF2:=qd (HF.out.trans hF2)
       refine op_append (.tmp 8) (.tmp 14) 47 rfl _ _ _ wb rfl rfl hr ?_
       refine hK _ _ ?_
       clear hK K hr hC2 hF2 k0 k1 kl kf
       refine wpAny_take (i:=12) (v:=?_) rfl (by kernel_rfl) (by kernel_rfl) (by kernel_rfl) (fun _ _ _ h=>h) (Or.inl ⟨by rfl,?_⟩) ?_
       rotate_left 1
       ·intro w
        go_simp<;>with_reducible rfl
       refine wpAny_take (i:=13) (v:=?_) rfl (by kernel_rfl) (by kernel_rfl) (by kernel_rfl) (fun _ _ _ h=>h) (Or.inl ⟨by rfl,?_⟩) ?_
       rotate_left 1
       ·intro w
        go_simp<;>with_reducible rfl
       refine wpAny_ready (rs:=[14]) (by kernel_rfl) (by simp) ?_
       refine AllReady.cons rfl (fun K hK=>?_) ?_
       ·skip
        go_simp
        refine hK _ _ ?_
        clear hK K
        refine wpAny_done (by kernel_rfl) ?_ _
        go_wp2_with fail
        go_end0
        exact ⟨rfl,_,HC2.out,HF2.out⟩
       exact AllReady.nil
      exact AllReady.nil
     exact AllReady.nil
    exact AllReady.nil
   exact AllReady.nil
  refine AllReady.cons rfl (fun K hK=>?_) ?_
  ·skip
   go_simp
   refine hK _ _ ?_
   clear hK K
   refine wpAny_ready (rs:=[4,9]) (by kernel_rfl) (by simp) ?_
   refine AllReady.cons rfl (fun K hK=>?_) ?_
   ·skip
    go_simp
    refine hK _ _ ?_
    clear hK K
    refine wpAny_ready (rs:=[9]) (by kernel_rfl) (by simp) ?_
    refine AllReady.cons rfl (fun K hK=>?_) ?_
    ·skip
     go_simp
     refine (HSk.out _).mono ?_
     rintro e w1 ⟨rfl,hb1⟩
     have HC1:=qd (HC.out.below hb1)
     have HF1:=qd (HF.out.trans (Fr.of_below _ _ _ hb1))
     clear k0 k1 kl kf hb1 HC HF
     have HC:=HC1
     have HF:=HF1
     clear HC1 HF1
     obtain ⟨k0,k1,kl,kf⟩:=HC.out.cells
     refine hK _ _ ?_
     clear hK K
     refine wpAny_ready (rs:=[10]) (by kernel_rfl) (by simp) ?_
     refine AllReady.cons rfl (fun K hK=>?_) ?_
     ·skip
      go_simp
      refine hK _ _ ?_
      clear hK K
      refine wpAny_ready (rs:=[11]) (by kernel_rfl) (by simp) ?_
      refine AllReady.cons rfl (fun K hK=>?_) ?_
      ·skip
       obtain ⟨v2,wb,hr,hC2,hF2,r0,r1,r2⟩:=CR.run HC.out (skipI d) hl 47
       obtain ⟨A2,c2,hv2⟩:=hC2.slice
       obtain ⟨n2,hn2⟩:∃n2,n2=(⟨(skipI d)::c.ins,c.bh⟩:CdM).ins.length:=⟨_,rfl⟩
       rw [←hn2] at hv2
       clear hn2
       subst hv2
       have HC2:=qd hC2
       have HF2:=qd (HF.out.trans hF2)
       refine op_append (.tmp 8) (.tmp 14) 47 rfl _ _ _ wb rfl rfl hr ?_
       refine hK _ _ ?_
       clear hK K hr hC2 hF2 k0 k1 kl kf
       refine wpAny_take (i:=12) (v:=?_) rfl (by kernel_rfl) (by kernel_rfl) (by kernel_rfl) (fun _ _ _ h=>h) (Or.inl ⟨by rfl,?_⟩) ?_
       rotate_left 1
       ·intro w
        go_simp<;>with_reducible rfl
       refine wpAny_take (i:=13) (v:=?_) rfl (by kernel_rfl) (by kernel_rfl) (by kernel_rfl) (fun _ _ _ h=>h) (Or.inl ⟨by rfl,?_⟩) ?_
       rotate_left 1
       ·intro w
        go_simp<;>with_reducible rfl
       refine wpAny_ready (rs:=[14]) (by kernel_rfl) (by simp) ?_
       refine AllReady.cons rfl (fun K hK=>?_) ?_
       ·skip
        go_simp
        refine hK _ _ ?_
        clear hK K
        refine wpAny_done (by kernel_rfl) ?_ _
        go_wp2_with fail
        go_end0
        exact ⟨rfl,_,HC2.out,HF2.out⟩
       exact AllReady.nil
      exact AllReady.nil
     exact AllReady.nil
    exact AllReady.nil
   refine AllReady.cons rfl (fun K hK=>?_) ?_
   ·skip
    go_simp
    refine (HSk.out _).mono ?_
    rintro e w1 ⟨rfl,hb1⟩
    have HC1:=qd (HC.out.below hb1)
    have HF1:=qd (HF.out.trans (Fr.of_below _ _ _ hb1))
    clear k0 k1 kl kf hb1 HC HF
    have HC:=HC1
    have HF:=HF1
    clear HC1 HF1
    obtain ⟨k0,k1,kl,kf⟩:=HC.out.cells
    refine hK _ _ ?_
    clear hK K
    refine wpAny_ready (rs:=[4,10]) (by kernel_rfl) (by simp) ?_
    refine AllReady.cons rfl (fun K hK=>?_) ?_
    ·skip
     go_simp
     refine hK _ _ ?_
     clear hK K
     refine wpAny_ready (rs:=[10]) (by kernel_rfl) (by simp) ?_
     refine AllReady.cons rfl (fun K hK=>?_) ?_
     ·skip
      go_simp
      refine hK _ _ ?_
      clear hK K
      refine wpAny_ready (rs:=[11]) (by kernel_rfl) (by simp) ?_
      refine AllReady.cons rfl (fun K hK=>?_) ?_
      ·skip
       obtain ⟨v2,wb,hr,hC2,hF2,r0,r1,r2⟩:=CR.run HC.out (skipI d) hl 47
       obtain ⟨A2,c2,hv2⟩:=hC2.slice
       obtain ⟨n2,hn2⟩:∃n2,n2=(⟨(skipI d)::c.ins,c.bh⟩:CdM).ins.length:=⟨_,rfl⟩
       rw [←hn2] at hv2
       clear hn2
       subst hv2
       have HC2:=qd hC2
       have HF2:=qd (HF.out.trans hF2)
       refine op_append (.tmp 8) (.tmp 14) 47 rfl _ _ _ wb rfl rfl hr ?_
       refine hK _ _ ?_
       clear hK K hr hC2 hF2 k0 k1 kl kf
       refine wpAny_take (i:=12) (v:=?_) rfl (by kernel_rfl) (by kernel_rfl) (by kernel_rfl) (fun _ _ _ h=>h) (Or.inl ⟨by rfl,?_⟩) ?_
       rotate_left 1
       ·intro w
        go_simp<;>with_reducible rfl
       refine wpAny_take (i:=13) (v:=?_) rfl (by kernel_rfl) (by kernel_rfl) (by kernel_rfl) (fun _ _ _ h=>h) (Or.inl ⟨by rfl,?_⟩) ?_
       rotate_left 1
       ·intro w
        go_simp<;>with_reducible rfl
       refine wpAny_ready (rs:=[14]) (by kernel_rfl) (by simp) ?_
       refine AllReady.cons rfl (fun K hK=>?_) ?_
       ·skip
        go_simp
        refine hK _ _ ?_
        clear hK K
        refine wpAny_done (by kernel_rfl) ?_ _
        go_wp2_with fail
        go_end0
        exact ⟨rfl,_,HC2.out,HF2.out⟩
       exact AllReady.nil
      exact AllReady.nil
     exact AllReady.nil
    refine AllReady.cons rfl (fun K hK=>?_) ?_
    ·skip
     go_simp
     refine hK _ _ ?_
     clear hK K
     refine wpAny_ready (rs:=[4]) (by kernel_rfl) (by simp) ?_
     refine AllReady.cons rfl (fun K hK=>?_) ?_
     ·skip
      go_simp
      refine hK _ _ ?_
      clear hK K
      refine wpAny_ready (rs:=[11]) (by kernel_rfl) (by simp) ?_
      refine AllReady.cons rfl (fun K hK=>?_) ?_
      ·skip
       obtain ⟨v2,wb,hr,hC2,hF2,r0,r1,r2⟩:=CR.run HC.out (skipI d) hl 47
       obtain ⟨A2,c2,hv2⟩:=hC2.slice
       obtain ⟨n2,hn2⟩:∃n2,n2=(⟨(skipI d)::c.ins,c.bh⟩:CdM).ins.length:=⟨_,rfl⟩
       rw [←hn2] at hv2
       clear hn2
       subst hv2
       have HC2:=qd hC2
       have HF2:=qd (HF.out.trans hF2)
       refine op_append (.tmp 8) (.tmp 14) 47 rfl _ _ _ wb rfl rfl hr ?_
       refine hK _ _ ?_
       clear hK K hr hC2 hF2 k0 k1 kl kf
       refine wpAny_take (i:=12) (v:=?_) rfl (by kernel_rfl) (by kernel_rfl) (by kernel_rfl) (fun _ _ _ h=>h) (Or.inl ⟨by rfl,?_⟩) ?_
       rotate_left 1
       ·intro w
        go_simp<;>with_reducible rfl
       refine wpAny_take (i:=13) (v:=?_) rfl (by kernel_rfl) (by kernel_rfl) (by kernel_rfl) (fun _ _ _ h=>h) (Or.inl ⟨by rfl,?_⟩) ?_
       rotate_left 1
       ·intro w
        go_simp<;>with_reducible rfl
       refine wpAny_ready (rs:=[14]) (by kernel_rfl) (by simp) ?_
       refine AllReady.cons rfl (fun K hK=>?_) ?_
       ·skip
        go_simp
        refine hK _ _ ?_
        clear hK K
        refine wpAny_done (by kernel_rfl) ?_ _
        go_wp2_with fail
        go_end0
        exact ⟨rfl,_,HC2.out,HF2.out⟩
       exact AllReady.nil
      exact AllReady.nil
     exact AllReady.nil
    exact AllReady.nil
   exact AllReady.nil
  exact AllReady.nil
 exact AllReady.nil
end Go.Proofs.YtcnebdjhhfnmoaaGreatDoor.Ju
namespace Go.Proofs.YtcnebdjhhfnmoaaGreatDoor.Ju
open Go.RowKit Go.Maps Go.WideMaps Go.WideElems Go.ChangeMaps
theorem CR.named {w w':World}{p m B:Nat}{v:Value}{c:CdM}{n:Int}{z:Nat}(h:CR w p m B v c)(hm:w'.ownsMap Tryz.prog 74 (plainElem Tryz.prog 3) m ((c.bh.map bhI).length+1) ((mD (c.bh.map bhI)).put (.int .i64 n) (.lit (.int .i64 (z:Int)))))(hg:w.grownBy w' (some m))(hz:z=c.ins.length):CR w' p m B v ⟨c.ins,(n,c.ins.length)::c.bh⟩:=by
 subst hz
 exact ⟨h.box.grown hg (fun e=>by injection e with e;exact h.pm e),own_keep h.row hg (fun b hb e=>by have:=(own_ge h.row b hb).1;have:=h.mB;omega),hm,h.pB,h.mB,h.pm,Nat.le_trans h.le hg.size⟩
theorem reach_any (w:World)(p m B:Nat)(v:Value)(c:CdM)(n:Int)(b:Nat)(h:CR w p m B v c)(h1:-9223372036854775808≤n)(h2:n≤9223372036854775807)(hb:lk n c.bh=some b)(hbl:b≤c.ins.length)(hl:c.ins.length≤5000) :
  Calls Tryz.prog 143 #[.pointer (some ⟨p,0,none⟩),.int .i64 n] w (StepPost p m B v w ((reachF c.ins b).1:Int) ⟨(reachF c.ins b).2,c.bh⟩):=by
 have HC:=qd h
 have HFar:=qd (fun W (h:CR W p m B v c)=>far_b W p m B v c n b h h1 h2 hb hbl hl)
 have HSk:=qd (fun W (h:CR W p m B v c)=>skip_any W p m B v c n b h h1 h2 hb hbl hl)
 obtain ⟨d,hd⟩:∃d,d=c.ins.length-b:=⟨_,rfl⟩
 have HD:=qd hd
 rw [←hd] at HFar HSk
 clear h hb hbl hd
 go_enter Tryz.func143,Tryz.ntmps143
 go_wp2_with fail
 refine (HFar.out _ HC.out).mono ?_
 rintro e w1 ⟨rfl,hb1⟩
 have HC1:=qd (HC.out.below hb1)
 have HF1:=qd (Fr.of_below p m v hb1)
 clear hb1 HFar
 by_cases hz:d≤253
 ·have g1:(d:Int)≤253:=by omega
  have g2:decide ((d:Int)≤253)=true:=decide_eq_true g1
  have HZ:=qd (show reachF c.ins b=(d,c.ins) by unfold reachF;rw [←HD.out,if_pos hz])
  clear hz
  go_wp2_with fail
  go_ret
  rw [HZ.out]
  exact ⟨rfl,_,HC1.out,HF1.out⟩
 ·have g1:¬(d:Int)≤253:=by omega
  have g2:decide ((d:Int)≤253)=false:=decide_eq_false g1
  have HZ:=qd (show reachF c.ins b=(0,skipI d::c.ins) by unfold reachF;rw [←HD.out,if_neg hz])
  clear hz
  go_wp2_with fail
  refine (HSk.out _ HC1.out).mono ?_
  rintro e w2 ⟨rfl,v2,hC2,hF2⟩
  have HC2:=qd hC2
  have HF2:=qd (HF1.out.trans hF2)
  clear hC2 hF2
  go_wp2_with fail
  go_ret
  rw [HZ.out]
  exact ⟨rfl,_,HC2.out,HF2.out⟩
theorem leave_any (w:World)(p m B:Nat)(v:Value)(c:CdM)(q:PtM)(h:CR w p m B v c)(hk:q.kd=4)(h1:-9223372036854775808≤q.tQ)(h2:q.tQ≤9223372036854775807)(hbn:Bnd c)(hl:c.ins.length≤5000) :
  Calls Tryz.prog 110 #[.pointer (some ⟨p,0,none⟩),.int .i64 q.tQ] w (StepPost p m B v w ((layF q c).1:Nat) (layF q c).2):=by
 have HC:=qd h
 have HTh:=qd (there_any w p m B v c q.tQ h h1 h2)
 cases hb:lk q.tQ c.bh with
 | none=>
  have HV:=qd (show layF q c=(207,c) by unfold layF;rw [hk];simp [hb])
  rw [hb] at HTh
  clear h hb
  go_enter Tryz.func110,Tryz.ntmps110
  go_wp2_with fail
  refine HTh.out.mono ?_
  rintro e w1 ⟨rfl,rfl⟩
  go_wp2_with fail
  go_ret
  rw [HV.out]
  exact ⟨rfl,_,HC.out,Fr.refl _ _ _ _⟩
 | some b=>
  have HV:=qd (show layF q c=(0,⟨skipI (c.ins.length-b)::c.ins,c.bh⟩) by unfold layF;rw [hk];simp [hb])
  have HSk:=qd (skip_any w p m B v c q.tQ b h h1 h2 hb (hbn _ _ hb) hl)
  rw [hb] at HTh
  clear h hb
  go_enter Tryz.func110,Tryz.ntmps110
  go_wp2_with fail
  refine HTh.out.mono ?_
  rintro e w1 ⟨rfl,rfl⟩
  go_wp2_with fail
  refine HSk.out.mono ?_
  rintro e w2 ⟨rfl,v2,hC2,hF2⟩
  have HC2:=qd hC2
  have HF2:=qd hF2
  clear hC2 hF2
  go_wp2_with fail
  go_ret
  rw [HV.out]
  exact ⟨rfl,_,HC2.out,HF2.out⟩
theorem here_any (w:World)(p m B:Nat)(v:Value)(c:CdM)(q:PtM)(h:CR w p m B v c)(hk:q.kd=1)(h1:-9223372036854775808≤q.tQ)(h2:q.tQ≤9223372036854775807)(hl:c.ins.length≤5000)(hbl:c.bh.length≤100000) :
  Calls Tryz.prog 107 #[.pointer (some ⟨p,0,none⟩),.int .i64 q.tQ] w (StepPost p m B v w ((layF q c).1:Nat) (layF q c).2):=by
 have HC:=qd h
 have HTh:=qd (there_any w p m B v c q.tQ h h1 h2)
 cases hb:lk q.tQ c.bh with
 | some b=>
  have HV:=qd (show layF q c=(206,c) by unfold layF;rw [hk];simp [hb])
  rw [hb] at HTh
  clear h hb
  go_enter Tryz.func107,Tryz.ntmps107
  go_wp2_with fail
  refine HTh.out.mono ?_
  rintro e w1 ⟨rfl,rfl⟩
  go_wp2_with fail
  go_ret
  rw [HV.out]
  exact ⟨rfl,_,HC.out,Fr.refl _ _ _ _⟩
 | none=>
  have HV:=qd (show layF q c=(0,⟨c.ins,(q.tQ,c.ins.length)::c.bh⟩) by unfold layF;rw [hk];simp [hb])
  rw [hb] at HTh
  obtain ⟨A,cp,rfl⟩:=h.slice
  obtain ⟨k0,k1,kl,kf⟩:=h.cells
  obtain ⟨z,hz⟩:∃z,z=c.ins.length:=⟨_,rfl⟩
  have HZ:=qd hz
  have HM:=qd (show NMap w.drew 3 m (c.bh.map bhI) from h.drew.mp)
  have hml:(c.bh.map bhI).length<maxLen:=by rw [List.length_map];unfold maxLen;omega
  rw [←hz] at k0
  have wv:=wfI (a:=(z:Int)) (by omega) (by omega)
  clear h hb hz
  go_enter Tryz.func107,Tryz.ntmps107
  go_wp2_with fail
  refine HTh.out.mono ?_
  rintro e w1 ⟨rfl,rfl⟩
  go_wp2_with fail
  go_still_tail 10,(by kernel_rfl)
  go_wp2_with (at_mapUpdate;go_loud (refine wpList_mapUpdate_own _ rfl _ _ _ 169 rfl 74 3 nameKeyed Tryz.underlying169 (plainElem Tryz.prog 3) m _ _ rfl HM.out hml _ _ (.int .i64 q.tQ) rfl rfl (keyOf_int_mk Tryz.underlying74 (wfI h1 h2)) (.lit (.int .i64 (z:Int))) [] (plainElem_int Tryz.underlying3 wv) ?_);intro w4 hm4 hg4;have HM4:=qd hm4;have HG4:=qd hg4;clear hm4 hg4)
  go_ret
  rw [HV.out]
  exact ⟨rfl,_,HC.out.drew.named HM4.out HG4.out HZ.out,(Fr.of_below p m _ (Below.refl _ _).drew).trans (Fr.grown _ HG4.out (Or.inr rfl))⟩
theorem plain_any (w:World)(p m B:Nat)(v:Value)(c:CdM)(q:PtM)(h:CR w p m B v c)(hk:q.kd=2)(hq:q.i.ok)(hl:c.ins.length≤5000) :
  Calls Tryz.prog 108 #[.pointer (some ⟨p,0,none⟩),.agg #[.int .u16 q.i.c,.int .u8 q.i.t,.int .u8 q.i.f,.int .u32 q.i.k]] w (StepPost p m B v w ((layF q c).1:Nat) (layF q c).2):=by
 obtain ⟨W,hW⟩:∃W,W=w.alloc (.cells #[.int .u16 q.i.c,.int .u8 q.i.t,.int .u8 q.i.f,.int .u32 q.i.k] 76):=⟨_,rfl⟩
 have hbx:Bk W w.heap.size 76 q.i.cells:=by rw [hW];exact Bk.new w _ _ rfl
 have hb1:Below w.heap.size w W:=by rw [hW];exact oneb w _
 have HC:=qd (h.below hb1)
 have HF:=qd (Fr.of_below p m v hb1)
 have HBx:=qd hbx
 have HCl:=qd (fun W=>class_any q.i.c W hq.1)
 go_enter Tryz.func108,Tryz.ntmps108
 go_upto_region 1 with fail
 rw [←hW]
 clear hW hb1 hbx h
 generalize w.heap.size=xb at *
 have y0:=HBx.out.cell 0 rfl
 have y1:=HBx.out.cell 1 rfl
 have y2:=HBx.out.cell 2 rfl
 have y3:=HBx.out.cell 3 rfl
 have yl:=HBx.out.lt
 obtain ⟨z,hz⟩:∃z,z=q.i.c%8:=⟨_,rfl⟩
 rw [←hz] at HCl
 go_wp2_with fail
 refine (HCl.out _).mono ?_
 rintro e w1 ⟨rfl,rfl⟩
 by_cases h5:z=5
 ·have e1:((z:Int)==5)=true:=by rw [h5];rfl
  have HV:=qd (show layF q c=(210,c) by unfold layF;rw [hk,←hz,h5];simp)
  clear h5 hz
  go_wp2_with fail
  go_ret
  rw [HV.out]
  exact ⟨rfl,_,HC.out,HF.out⟩
 ·have e1:((z:Int)==5)=false:=by rw [beq_eq_false_iff_ne];omega
  have HV:=qd (show layF q c=(0,⟨q.i::c.ins,c.bh⟩) by unfold layF;rw [hk,←hz];simp [h5])
  have HD:=qd (HC.out.drew)
  have HFD:=qd (HF.out.trans (Fr.of_below p m v (Below.refl W.heap.size W).drew))
  clear h5 hz HC HF
  have HC:=HD
  have HF:=HFD
  clear HD HFD
  obtain ⟨A,cp,rfl⟩:=HC.out.slice
  obtain ⟨k0,k1,kl,kf⟩:=HC.out.cells
  have kl2:p<W.heap.size:=kl
  have k02:W.cell? ⟨p,0,none⟩=some (.slice A c.ins.length cp):=k0
  go_wp2_with fail
  refine wp_region_any (by kernel_rfl) ?_
  try (change wpAny _ _ _ _ _ _ _ (World.drew _))
  refine wpAny_take (i:=0) (v:=?_) rfl (by kernel_rfl) (by kernel_rfl) (by kernel_rfl) (fun _ _ _ h=>h) (Or.inl ⟨by rfl,?_⟩) ?_
  rotate_left 1
  ·intro w
   go_simp<;>with_reducible rfl
  refine wpAny_take (i:=1) (v:=?_) rfl (by kernel_rfl) (by kernel_rfl) (by kernel_rfl) (fun _ _ _ h=>h) (Or.inl ⟨by rfl,?_⟩) ?_
  rotate_left 1
  ·intro w
   go_simp<;>with_reducible rfl
  refine wpAny_take (i:=2) (v:=?_) rfl (by kernel_rfl) (by kernel_rfl) (by kernel_rfl) (fun _ _ _ h=>h) (Or.inl ⟨by rfl,?_⟩) ?_
  rotate_left 1
  ·intro w
   go_simp<;>with_reducible rfl
  refine wpAny_take (i:=3) (v:=?_) rfl (by kernel_rfl) (by kernel_rfl) (by kernel_rfl) (fun _ _ _ h=>h) (Or.inl ⟨by rfl,?_⟩) ?_
  rotate_left 1
  ·intro w
   go_simp<;>with_reducible rfl
  refine wpAny_ready (rs:=[4,5]) (by kernel_rfl) (by simp) ?_
  refine AllReady.cons rfl (fun K hK=>?_) ?_
  ·skip
   go_simp
   refine hK _ _ ?_
   clear hK K
   refine wpAny_ready (rs:=[5]) (by kernel_rfl) (by simp) ?_
   refine AllReady.cons rfl (fun K hK=>?_) ?_
   ·skip
    go_simp
    refine hK _ _ ?_
    clear hK K
    refine wpAny_ready (rs:=[6]) (by kernel_rfl) (by simp) ?_
    refine AllReady.cons rfl (fun K hK=>?_) ?_
    ·skip
     go_simp
     refine hK _ _ ?_
     clear hK K
     refine wpAny_ready (rs:=[7]) (by kernel_rfl) (by simp) ?_
     refine AllReady.cons rfl (fun K hK=>?_) ?_
     ·skip
      obtain ⟨v2,wb,hr,hC2,hF2,r0,r1,r2⟩:=CR.run HC.out q.i hl 47
      obtain ⟨A2,c2,hv2⟩:=hC2.slice
      obtain ⟨n2,hn2⟩:∃n2,n2=(⟨q.i::c.ins,c.bh⟩:CdM).ins.length:=⟨_,rfl⟩
      rw [←hn2] at hv2
      clear hn2
      subst hv2
      have HC2:=qd hC2
      have HF2:=qd (HF.out.trans hF2)
      refine op_append (.tmp 13) (.tmp 15) 47 rfl _ _ _ wb rfl rfl hr ?_
      refine hK _ _ ?_
      clear hK K hr hC2 hF2 k0 k1 kl kf
      refine wpAny_take (i:=8) (v:=?_) rfl (by kernel_rfl) (by kernel_rfl) (by kernel_rfl) (fun _ _ _ h=>h) (Or.inl ⟨by rfl,?_⟩) ?_
      rotate_left 1
      ·intro w
       go_simp<;>with_reducible rfl
      refine wpAny_take (i:=9) (v:=?_) rfl (by kernel_rfl) (by kernel_rfl) (by kernel_rfl) (fun _ _ _ h=>h) (Or.inl ⟨by rfl,?_⟩) ?_
      rotate_left 1
      ·intro w
       go_simp<;>with_reducible rfl
      refine wpAny_ready (rs:=[10]) (by kernel_rfl) (by simp) ?_
      refine AllReady.cons rfl (fun K hK=>?_) ?_
      ·skip
       go_simp
       refine hK _ _ ?_
       clear hK K
       refine wpAny_done (by kernel_rfl) ?_ _
       go_wp2_with fail
       go_ret
       rw [HV.out]
       exact ⟨rfl,_,HC2.out,HF2.out⟩
      exact AllReady.nil
     exact AllReady.nil
    exact AllReady.nil
   exact AllReady.nil
  refine AllReady.cons rfl (fun K hK=>?_) ?_
  ·skip
   go_simp
   refine hK _ _ ?_
   clear hK K
   refine wpAny_ready (rs:=[4,6]) (by kernel_rfl) (by simp) ?_
   refine AllReady.cons rfl (fun K hK=>?_) ?_
   ·skip
    go_simp
    refine hK _ _ ?_
    clear hK K
    refine wpAny_ready (rs:=[6]) (by kernel_rfl) (by simp) ?_
    refine AllReady.cons rfl (fun K hK=>?_) ?_
    ·skip
     go_simp
     refine hK _ _ ?_
     clear hK K
     refine wpAny_ready (rs:=[7]) (by kernel_rfl) (by simp) ?_
     refine AllReady.cons rfl (fun K hK=>?_) ?_
     ·skip
      obtain ⟨v2,wb,hr,hC2,hF2,r0,r1,r2⟩:=CR.run HC.out q.i hl 47
      obtain ⟨A2,c2,hv2⟩:=hC2.slice
      obtain ⟨n2,hn2⟩:∃n2,n2=(⟨q.i::c.ins,c.bh⟩:CdM).ins.length:=⟨_,rfl⟩
      rw [←hn2] at hv2
      clear hn2
      subst hv2
      have HC2:=qd hC2
      have HF2:=qd (HF.out.trans hF2)
      refine op_append (.tmp 13) (.tmp 15) 47 rfl _ _ _ wb rfl rfl hr ?_
      refine hK _ _ ?_
      clear hK K hr hC2 hF2 k0 k1 kl kf
      refine wpAny_take (i:=8) (v:=?_) rfl (by kernel_rfl) (by kernel_rfl) (by kernel_rfl) (fun _ _ _ h=>h) (Or.inl ⟨by rfl,?_⟩) ?_
      rotate_left 1
      ·intro w
       go_simp<;>with_reducible rfl
      refine wpAny_take (i:=9) (v:=?_) rfl (by kernel_rfl) (by kernel_rfl) (by kernel_rfl) (fun _ _ _ h=>h) (Or.inl ⟨by rfl,?_⟩) ?_
      rotate_left 1
      ·intro w
       go_simp<;>with_reducible rfl
      refine wpAny_ready (rs:=[10]) (by kernel_rfl) (by simp) ?_
      refine AllReady.cons rfl (fun K hK=>?_) ?_
      ·skip
       go_simp
       refine hK _ _ ?_
       clear hK K
       refine wpAny_done (by kernel_rfl) ?_ _
       go_wp2_with fail
       go_ret
       rw [HV.out]
       exact ⟨rfl,_,HC2.out,HF2.out⟩
      exact AllReady.nil
     exact AllReady.nil
    exact AllReady.nil
   refine AllReady.cons rfl (fun K hK=>?_) ?_
   ·skip
    go_simp
    refine hK _ _ ?_
    clear hK K
    refine wpAny_ready (rs:=[4]) (by kernel_rfl) (by simp) ?_
    refine AllReady.cons rfl (fun K hK=>?_) ?_
    ·skip
     go_simp
     refine hK _ _ ?_
     clear hK K
     refine wpAny_ready (rs:=[7]) (by kernel_rfl) (by simp) ?_
     refine AllReady.cons rfl (fun K hK=>?_) ?_
     ·skip
      obtain ⟨v2,wb,hr,hC2,hF2,r0,r1,r2⟩:=CR.run HC.out q.i hl 47
      obtain ⟨A2,c2,hv2⟩:=hC2.slice
      obtain ⟨n2,hn2⟩:∃n2,n2=(⟨q.i::c.ins,c.bh⟩:CdM).ins.length:=⟨_,rfl⟩
      rw [←hn2] at hv2
      clear hn2
      subst hv2
      have HC2:=qd hC2
      have HF2:=qd (HF.out.trans hF2)
      refine op_append (.tmp 13) (.tmp 15) 47 rfl _ _ _ wb rfl rfl hr ?_
      refine hK _ _ ?_
      clear hK K hr hC2 hF2 k0 k1 kl kf
      refine wpAny_take (i:=8) (v:=?_) rfl (by kernel_rfl) (by kernel_rfl) (by kernel_rfl) (fun _ _ _ h=>h) (Or.inl ⟨by rfl,?_⟩) ?_
      rotate_left 1
      ·intro w
       go_simp<;>with_reducible rfl
      refine wpAny_take (i:=9) (v:=?_) rfl (by kernel_rfl) (by kernel_rfl) (by kernel_rfl) (fun _ _ _ h=>h) (Or.inl ⟨by rfl,?_⟩) ?_
      rotate_left 1
      ·intro w
       go_simp<;>with_reducible rfl
      refine wpAny_ready (rs:=[10]) (by kernel_rfl) (by simp) ?_
      refine AllReady.cons rfl (fun K hK=>?_) ?_
      ·skip
       go_simp
       refine hK _ _ ?_
       clear hK K
       refine wpAny_done (by kernel_rfl) ?_ _
       go_wp2_with fail
       go_ret
       rw [HV.out]
       exact ⟨rfl,_,HC2.out,HF2.out⟩
      exact AllReady.nil
     exact AllReady.nil
    exact AllReady.nil
   exact AllReady.nil
  exact AllReady.nil
end Go.Proofs.YtcnebdjhhfnmoaaGreatDoor.Ju
