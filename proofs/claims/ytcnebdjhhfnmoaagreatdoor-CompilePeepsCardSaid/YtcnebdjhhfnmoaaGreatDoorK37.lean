/- The records that a law holds a policy against: any that came in, and some of its rules' numbers. -/
import Derived.Test.YtcnebdjhhfnmoaaGreatDoorK36
import Derived.Test.YtcnebdjhhfnmoaaGreatDoorK14
set_option linter.unusedSimpArgs false
set_option maxHeartbeats 32000000
set_option maxRecDepth 100000
namespace Go.Proofs.YtcnebdjhhfnmoaaGreatDoor.Me
open Go.RowKit Go.WideElems
theorem infoRec:(Tryz.prog.info? 60).map (fun i=>(i.zero,i.size,i.bytes))=some (some (.agg #[.int .u32 0,.int .u32 0,.int .u64 0,.int .u64 0,.int .u64 0,.int .u64 0,.int .u64 0,.int .u64 0,.int .u64 0]),9,64):=by kernel_rfl
theorem wrap_nat (z:Int):∃v:Nat,v<18446744073709551616∧IntKind.u64.wrap z=(v:Int):=by
 refine ⟨(z%18446744073709551616).toNat,by omega,?_⟩
 rw [IntKind.wrap_u64];omega
theorem append_list {w:World} {ops:Array Oper} {rest:List Oper} {o:Oper} {a:Act} {Q:Exit→Act→World→Prop} (hgd:o.guard=none) (s x:Operand) (t e:TypeId)
  (ho:o.op=.call { callee:=.builtin .append,args:=#[s,x],argTypes:=#[t,t] }) (zero:Value) (size bytes:Nat)
  (hinfo:(Tryz.prog.info? e).map (fun i=>(i.zero,i.size,i.bytes))=some (some zero,size,bytes)) (ht:Tryz.prog.underlying t=some (.slice e)) (hzs:zero.cells.size=size) (hsz:0<size) (hby:bytes≤64)
  (base:Nat) (v:Value) (n:Nat) (xs:List Value) (hs:a.eval s=v) (hown:w.ownsRow base e size v n xs) (A:Option Addr) (m c:Nat) (news:List Value) (hx:a.eval x=.slice A m c) (hA:A=none→m=0∧c=0) (hR:Rd w size m A news) (h1:∀u∈news,u.oneCell'=true) (hn:n+m≤100000) (hbase:base≤w.heap.size)
  (h:∀v' w',w'.ownsRow base e size v' (n+m) (xs++news)→w.grownBy w' v.ownBlock→(v'.ownBlock=v.ownBlock∨v'.ownBlock=some w.heap.size)→wpList Tryz.prog ops Q rest (a.put o.dst v') w'):wpList Tryz.prog ops Q (o::rest) a w:=by
 obtain ⟨i0,hi,hz0,hz1,hz2⟩:=info_parts hinfo
 cases A with
 | none=>
  obtain ⟨rfl,rfl⟩:=hA rfl
  have hnil:news=[]:=by have:=hR.len;simp at this;exact this
  subst hnil
  refine wpList_append_own_none hgd s x t ho base e i0 size ht hi v n xs hs hown hx (h v w ?_ ⟨rfl,rfl,rfl,Nat.le_refl _,fun _ _ _=>rfl⟩ (.inl rfl))
  simpa using hown
 | some ad=>
  refine wpList_append_own_at w hgd s x t ho base e i0 zero size bytes ht hi hz0 hz1 hz2 hzs hsz v n xs hs hown ad m c news hx hR.len (fun j u hu=>?_) h1 (by unfold maxLen;omega) ?_ hbase (fun v' w' h1 h2 _ h3=>h v' w' h1 h2 h3)
  ·have hlt:=(List.getElem?_eq_some_iff.1 hu).1
   rw [hR.len] at hlt
   obtain ⟨b,o,e,hb,hc⟩:=hR.pos (by cases m with|zero=>simp at hlt|succ m=>omega)
   cases e
   rw [addr_at];exact hc j u hu
  ·have:(n+m)*bytes≤100000*64:=Nat.mul_le_mul hn hby
   omega
theorem own_empty (w:World) (e:TypeId) (size:Nat):(w.alloc (.cells #[] e)).ownsRow w.heap.size e size (.slice (some ⟨w.heap.size,0,none⟩) 0 0) 0 []:=
 ⟨by simp,.inr ⟨w.heap.size,0,#[],rfl,Nat.le_refl _,heap_alloc_new w _,Nat.le_refl _,by unfold maxLen;omega,by simp,by simp⟩⟩
theorem rec_one:∀(x:RcM),∀u∈x.cells,u.oneCell'=true:=by
 intro x u hu
 simp only [RcM.cells,List.mem_cons,List.not_mem_nil,or_false] at hu
 rcases hu with rfl|rfl|rfl|rfl|rfl|rfl|rfl|rfl|rfl<;>rfl
theorem recs_one (l:List RcM):∀u∈l.flatMap RcM.cells,u.oneCell'=true:=by
 intro u hu
 obtain ⟨x,_,hx⟩:=List.mem_flatMap.1 hu
 exact rec_one x u hx
theorem rec_set {w:World} {g t k:Nat} {x:RcM} {z:Int} (h:Bk w g t x.cells) (hx:x.ok) (hk:k<6):∃x':RcM,x'.ok∧Bk (w.setCell ⟨g,3+k,none⟩ (.int .u64 (IntKind.u64.wrap z))) g t x'.cells:=by
 obtain ⟨v,hv,hz⟩:=wrap_nat z
 rw [hz]
 have hs:=h.set (3+k) (.int .u64 (v:Int))
 rcases six hk with rfl|rfl|rfl|rfl|rfl|rfl
 ·exact ⟨{ x with a0:=v },⟨hx.num,hx.arch,hx.at_,hv,hx.a1,hx.a2,hx.a3,hx.a4,hx.a5⟩,hs⟩
 ·exact ⟨{ x with a1:=v },⟨hx.num,hx.arch,hx.at_,hx.a0,hv,hx.a2,hx.a3,hx.a4,hx.a5⟩,hs⟩
 ·exact ⟨{ x with a2:=v },⟨hx.num,hx.arch,hx.at_,hx.a0,hx.a1,hv,hx.a3,hx.a4,hx.a5⟩,hs⟩
 ·exact ⟨{ x with a3:=v },⟨hx.num,hx.arch,hx.at_,hx.a0,hx.a1,hx.a2,hv,hx.a4,hx.a5⟩,hs⟩
 ·exact ⟨{ x with a4:=v },⟨hx.num,hx.arch,hx.at_,hx.a0,hx.a1,hx.a2,hx.a3,hv,hx.a5⟩,hs⟩
 ·exact ⟨{ x with a5:=v },⟨hx.num,hx.arch,hx.at_,hx.a0,hx.a1,hx.a2,hx.a3,hx.a4,hv⟩,hs⟩
structure Fl (wq wx:World) (g:Nat) (x:RcM):Prop where
 bk:Bk wx g 60 x.cells
 ok:x.ok
 grow:wq.grownBy wx (some g)
theorem Fl.kept {wq wx w':World} {g:Nat} {x:RcM} (h:Fl wq wx g x) (hb:Below wx.heap.size wx w'):Fl wq w' g x:=
 ⟨h.bk.kept hb,h.ok,grown_trans h.grow ⟨hb.os,hb.tape,hb.output,hb.size,fun i hi _=>hb.block i hi⟩ (fun k (hk:none=some k)=>by cases hk)⟩
theorem Fl.set {wq wx:World} {g k:Nat} {x:RcM} {z:Int} (h:Fl wq wx g x) (hk:k<6):∃x',Fl wq (wx.setCell ⟨g,3+k,none⟩ (.int .u64 (IntKind.u64.wrap z))) g x':=by
 obtain ⟨x',h1,h2⟩:=rec_set h.bk h.ok hk
 exact ⟨x',h2,h1,grown_trans h.grow (only_set wx g (3+k) _) (fun _ hk=>.inl hk)⟩
theorem fl_rel {wq wx:World} {g k j:Nat} {x:RcM} {z:Int} {n:Nat} (h:Fl wq wx g x) (hk:k<6) (hj:j<n):∃(j':Nat) (x':RcM),Value.int .i64 ((j:Int)+1)=.int .i64 j'∧j'≤n∧Hid (Fl wq (wx.setCell ⟨g,3+k,none⟩ (.int .u64 (IntKind.u64.wrap z))) g x'):=by
 obtain ⟨x',hx⟩:=h.set (z:=z) hk
 exact ⟨j+1,x',by go_num,by omega,hx⟩
def RecsPost (w:World) (e:Ending) (w':World):Prop:=
 (∃(rs:List RcM) (A:Option Addr) (c:Nat),e=.returned (.slice A rs.length c)∧rs.length≤50∧(∀x∈rs,x.ok)∧TRd w' 60 9 rs.length A (rs.flatMap RcM.cells))∧Below w.heap.size w w'
def RecsPostO (w:World) (e:Ending) (w':World):Prop:=
 (∃(rs:List RcM) (A:Option Addr) (c:Nat),e=.returned (.slice A rs.length c)∧rs.length≤50∧(∀x∈rs,x.ok)∧w'.ownsRow w.heap.size 60 9 (.slice A rs.length c) rs.length (rs.flatMap RcM.cells))∧Below w.heap.size w w'
theorem own_lowU {w:World} {B C:Nat} {e:TypeId} {z n:Nat} {v:Value} {xs:List Value} (h:w.ownsRow B e z v n xs) (hb:C≤B):w.ownsRow C e z v n xs:=
 ⟨h.1,h.2.imp id fun ⟨g,cap,cur,e,h1,h2⟩=>⟨g,cap,cur,e,Nat.le_trans hb h1,h2⟩⟩
theorem recs_end {w w2 wr:World} {v:Value} {rs:List RcM} (ho:wr.ownsRow w2.heap.size 60 9 v rs.length (rs.flatMap RcM.cells)) (hl:rs.length≤50) (hok:∀x∈rs,x.ok) (hs:w.heap.size≤w2.heap.size) (hb:Below w.heap.size w wr):RecsPostO w (.returned v) wr:=by
 obtain ⟨A,c,rfl,_,ht,_,_⟩:=own_typed ho
 exact ⟨⟨rs,A,c,rfl,hl,hok,own_lowU ho hs⟩,hb⟩
theorem set3_grown (w:World) (g:Nat) (v0 v1 v2:Value):w.grownBy (((w.setCell ⟨g,0,none⟩ v0).setCell ⟨g,1,none⟩ v1).setCell ⟨g,2,none⟩ v2) (some g):=only_trans (only_trans (only_set w g 0 v0) (only_set _ g 1 v1)) (only_set _ g 2 v2)
theorem cell_grow3 {w:World} {b o g:Nat} {v v0 v1 v2:Value} (h:w.cell? ⟨b,o,none⟩=some v) (hn:b≠g):(((w.setCell ⟨g,0,none⟩ v0).setCell ⟨g,1,none⟩ v1).setCell ⟨g,2,none⟩ v2).cell? ⟨b,o,none⟩=some v:=cell_grown h (set3_grown w g v0 v1 v2) hn
theorem rd_new (w:World) (a:Array Value) {l:List Value} {n z:Nat} {T:TypeId} (h:a=l.toArray) (hl:l.length=n*z):Rd (w.alloc (.cells a T)) z n (some ⟨w.heap.size,0,none⟩) l:=
 ⟨hl,.inr ⟨w.heap.size,0,rfl,by simp,fun j u hu=>by rw [Nat.zero_add];exact (Bk.new w T a h).cell j hu⟩⟩
theorem records_anyO (nm:ByteArray) (d:Nat) (rules:List RuleV) (RA:Option Addr) (nR Rc hd:Nat) (PA:Option Addr) (nP Pc:Nat) (QA:Option Addr) (nQ Qc:Nat) (l:List RcM) (A:Option Addr) (n c:Nat) (pl:List Nat) (PB:Option Addr) (pn pc:Nat) (w:World)
  (hn:rules.length=nR) (hl:nR≤1000) (hR:RRd w rules RA) (hln:l.length=n) (hn20:n≤20) (hlok:∀x∈l,x.ok) (hA:A=none→n=0∧c=0) (hlR:Rd w 9 n A (l.flatMap RcM.cells)) (hpn:pl.length=pn) (hpm:pn≤maxLen) (hp8:∀x∈pl,x<256) (hpR:Rd w 1 pn PB (u8s pl)) :
  Calls Tryz.prog 17 #[.agg #[.string nm,.int .u32 d,.slice RA nR Rc,.int .u16 hd,.slice PA nP Pc,.slice QA nQ Qc],.slice A n c,.slice PB pn pc] w (RecsPostO w):=by
 have hpm':pn≤9223372036854775807:=hpm
 have hk1:=Bk.new w 30 #[.string nm,.int .u32 d,.slice RA nR Rc,.int .u16 hd,.slice PA nP Pc,.slice QA nQ Qc] (l:=[.string nm,.int .u32 d,.slice RA nR Rc,.int .u16 hd,.slice PA nP Pc,.slice QA nQ Qc]) rfl
 have hb:=oneb w (.cells #[.string nm,.int .u32 d,.slice RA nR Rc,.int .u16 hd,.slice PA nP Pc,.slice QA nQ Qc] 30)
 have HR:=Lib.hid (hR.below hb)
 have HlR:=Lib.hid (hlR.below hb)
 have HpR:=Lib.hid (hpR.below hb)
 have HN:=Lib.hid hn
 have Hln:=Lib.hid hln
 have Hlok:=Lib.hid hlok
 have HA:=Lib.hid hA
 have Hpn:=Lib.hid hpn
 have Hp8:=Lib.hid hp8
 clear hR hlR hpR hn hln hlok hA hpn hp8 hpm
 go_enter Tryz.func17,Tryz.ntmps17
 go_upto_region 1 with fail
 generalize World.alloc w _=w2 at hk1 hb HR HlR HpR ⊢
 have HB0:=Lib.hid hb
 have hlt1:=hk1.lt
 have HK1:=Lib.hid hk1
 clear hk1 hb
 go_wp2_with (at_builtin;go_loud (refine append_list rfl (.tmp 14) (.tmp 15) 36 60 rfl _ 9 64 infoRec Tryz.underlying36 rfl (by decide) (by decide) w2.heap.size _ 0 [] rfl (own_empty w2 _ _) A n c (l.flatMap RcM.cells) rfl HA.out (HlR.out.below (oneb w2 _)) (recs_one l) (by omega) (by simp) ?_);intro v1 w3 hown hgrow hat;have hb3:=(oneb w2 (.cells #[] 60)).grown hgrow (by simp) (fun g hg=>by cases hg;exact Nat.le_refl _);have HB3:=Lib.hid hb3;have HO3:=Lib.hid hown;clear hown hgrow hat hb3)
 have HO0:=Lib.hid (show w3.ownsRow w2.heap.size 60 9 v1 l.length (l.flatMap RcM.cells) by have:=HO3.out;rw [Hln.out];simpa using this)
 clear HO3
 go_loopw [7,19] (fun v iv wr=>∃(k:Nat) (rs:List RcM),iv=.int .i64 k∧k≤pn∧k≤30∧rs.length≤20+k∧Hid (∀x∈rs,x.ok)∧Hid (wr.ownsRow w2.heap.size 60 9 v rs.length (rs.flatMap RcM.cells))∧Hid (Below w2.heap.size w2 wr)) (fun _ iv _=>pn-(intOf iv).toNat)
 case atStart=>exact ⟨0,l,rfl,Nat.zero_le _,by omega,by rw [Hln.out];omega,Hlok,HO0,HB3⟩
 case round=>
  clear HO0 HB3
  obtain ⟨k,rs,rfl,hk,hk30,hrs,HOk,HO,HB⟩:=hrel
  have hs:=HB.out.size
  have hlw1:=Nat.lt_of_lt_of_le hlt1 hs
  by_cases hlt:k<pn
  ·obtain ⟨pk,hpk⟩:∃pk,pl[k]?=some pk:=⟨_,List.getElem?_eq_getElem (by have:=Hpn.out;omega)⟩
   have hp256:=Hp8.out pk (List.mem_of_getElem? hpk)
   obtain ⟨bp,op,hAp,hbp,hcp⟩:=(HpR.out.below HB.out).pos (by omega)
   subst hAp
   have cp:=hcp k _ (show (u8s pl)[k]?=some (.int .u8 pk) by simp [u8s,hpk])
   clear hcp hpk
   by_cases h30:30≤k
   ·have g30:(30:Int)≤(k:Int):=by omega
    have d30:decide ((30:Int)≤(k:Int))=true:=decide_eq_true g30
    go_wp2_with fail
    go_ret
    exact recs_end HO.out (by omega) HOk.out HB0.out.size (HB0.out.trans (HB.out.mono HB0.out.size))
   ·have g30:¬(30:Int)≤(k:Int):=by omega
    have d30:decide ((30:Int)≤(k:Int))=false:=decide_eq_false g30
    have q2:=(HK1.out.kept HB.out).cell 2 rfl
    by_cases h0:nR=0
    ·have e0:((nR:Int)==0)=true:=by rw [h0];rfl
     have H0:=Lib.hid h0
     clear h0
     go_wp2_with fail
     go_ret
     exact recs_end HO.out (by omega) HOk.out HB0.out.size (HB0.out.trans (HB.out.mono HB0.out.size))
    ·have e0:((nR:Int)==0)=false:=by rw [beq_eq_false_iff_ne];omega
     obtain ⟨q,hq⟩:∃q,q=pk%nR:=⟨_,rfl⟩
     have hqn:q<nR:=by rw [hq];exact Nat.mod_lt _ (by omega)
     have tq:Int.tmod (pk:Int) (nR:Int)=(q:Int):=by rw [hq,Int.tmod_eq_emod_of_nonneg (by omega)];rfl
     have eq':(pk:Int)%(nR:Int)=(q:Int):=by rw [hq];rfl
     have tq2:IntKind.i64.wrap (q:Int)=(q:Int):=IntWalk.i64_in _ (by omega)
     have wk:IntKind.i64.wrap (pk:Int)=(pk:Int):=IntWalk.i64_in _ (by omega)
     have wn:IntKind.i64.wrap (nR:Int)=(nR:Int):=IntWalk.i64_in _ (by omega)
     have nz:¬((nR:Int)=0):=by omega
     have q0:(0:Int)≤(q:Int):=by omega
     have q1:(q:Int)<(nR:Int):=by omega
     clear hq
     obtain ⟨r,hr⟩:∃r,rules[q]?=some r:=⟨_,List.getElem?_eq_getElem (by have:=HN.out;omega)⟩
     have HRr:=Lib.hid (HR.out.below HB.out)
     have hrd:=HRr.out.r
     simp only [HN.out] at hrd
     obtain ⟨bb,ob,hA,hbl,hcell⟩:=hrd.one (fun _=>rfl) (by omega) (by omega)
     subst hA
     obtain ⟨c0,c1,c2⟩:=rule_cells hcell hr
     have hmem:=List.mem_of_getElem? hr
     have HMem:=Lib.hid hmem
     have HOr:=Lib.hid (HRr.out.ok r hmem)
     have HOff:=Lib.hid (fun t (ht:w2.heap.size≤t)=>(HR.out.c r hmem).off ht)
     clear hcell hrd hmem hr HRr
     obtain ⟨⟨num,act,cs⟩,A9,c9⟩:=r
     simp only at c0 c1 c2
     obtain ⟨nc,hnc⟩:∃nc,nc=cs.length:=⟨_,rfl⟩
     rw [←hnc] at c2
     have HNc:=Lib.hid hnc
     have hncm:nc≤9223372036854775807:=by rw [hnc];exact HOr.out.2.2.1
     clear hnc
     go_upto_region 6 with fail
     refine wp_region_held_drew (S:=(fun w'=>w'.cell? ⟨w.heap.size,2,none⟩=some (.slice (some ⟨bb,ob,none⟩) nR Rc)∧w'.cell? ⟨bb,ob+q*3,none⟩=some (.int .u32 num)∧w'.cell? ⟨bb,ob+q*3+1,none⟩=some (.int .u32 act)∧w'.cell? ⟨bb,ob+q*3+2,none⟩=some (.slice A9 nc c9))) (by kernel_rfl) ?_ (fun hHeld0=>?_)
     ·exact ⟨q2,c0,c1,c2⟩
     clear q2 c0 c1 c2
     have hHv0:=(Below.refl wr.heap.size wr).drew
     generalize wr.drew=vh0 at hHeld0 hHv0 ⊢
     have HBv:=Lib.hid hHv0
     refine wpAnyH_take (i:=0) (v:=?_) (by first|(simp only [List.getElem?_toArray,List.getElem?_cons_zero]<;>rfl)|rfl) (by kernel_rfl) (by kernel_rfl) (by kernel_rfl) (by exact fun _ _ _ h=>h) (Or.inl ⟨by rfl,?_⟩) hHeld0 ?_
     rotate_left 1
     ·intro w hSw
      try dsimp only at hSw
      (go_simp)<;>(with_reducible rfl)
     try simp only [Act.put,List.setIfInBounds_toArray,List.set_cons_zero,List.set_cons_succ]
     refine wpAnyH_take (i:=1) (v:=?_) (by first|(simp only [List.getElem?_toArray,List.getElem?_cons_succ,List.getElem?_cons_zero]<;>rfl)|rfl) (by kernel_rfl) (by kernel_rfl) (by kernel_rfl) (by exact fun _ _ _ h=>h) (Or.inl ⟨by rfl,?_⟩) hHeld0 ?_
     rotate_left 1
     ·intro w hSw
      try dsimp only at hSw
      (go_simp)<;>(with_reducible rfl)
     try simp only [Act.put,List.setIfInBounds_toArray,List.set_cons_zero,List.set_cons_succ]
     refine wpAnyH_take (i:=2) (v:=?_) (by first|(simp only [List.getElem?_toArray,List.getElem?_cons_succ,List.getElem?_cons_zero]<;>rfl)|rfl) (by kernel_rfl) (by kernel_rfl) (by kernel_rfl) (by exact fun _ _ _ h=>h) (Or.inl ⟨by rfl,?_⟩) hHeld0 ?_
     rotate_left 1
     ·intro w hSw
      try dsimp only at hSw
      (go_simp)<;>(with_reducible rfl)
     try simp only [Act.put,List.setIfInBounds_toArray,List.set_cons_zero,List.set_cons_succ]
     refine wpAnyH_take (i:=3) (v:=?_) (by first|(simp only [List.getElem?_toArray,List.getElem?_cons_succ,List.getElem?_cons_zero]<;>rfl)|rfl) (by kernel_rfl) (by kernel_rfl) (by kernel_rfl) (by exact fun _ _ _ h=>h) (Or.inl ⟨by rfl,?_⟩) hHeld0 ?_
     rotate_left 1
     ·intro w hSw
      try dsimp only at hSw
      (go_simp)<;>(with_reducible rfl)
     try simp only [Act.put,List.setIfInBounds_toArray,List.set_cons_zero,List.set_cons_succ]
     refine wpAnyH_take (i:=4) (v:=?_) (by first|(simp only [List.getElem?_toArray,List.getElem?_cons_succ,List.getElem?_cons_zero]<;>rfl)|rfl) (by kernel_rfl) (by kernel_rfl) (by kernel_rfl) (by exact fun _ _ _ h=>h) (Or.inl ⟨by rfl,?_⟩) hHeld0 ?_
     rotate_left 1
     ·intro w hSw
      try dsimp only at hSw
      (go_simp)<;>(with_reducible rfl)
     try simp only [Act.put,List.setIfInBounds_toArray,List.set_cons_zero,List.set_cons_succ]
     refine wpAnyH_take (i:=5) (v:=?_) (by first|(simp only [List.getElem?_toArray,List.getElem?_cons_succ,List.getElem?_cons_zero]<;>rfl)|rfl) (by kernel_rfl) (by kernel_rfl) (by kernel_rfl) (by exact fun _ _ _ h=>h) (Or.inl ⟨by rfl,?_⟩) hHeld0 ?_
     rotate_left 1
     ·intro w hSw
      try dsimp only at hSw
      (go_simp)<;>(with_reducible rfl)
     try simp only [Act.put,List.setIfInBounds_toArray,List.set_cons_zero,List.set_cons_succ]
     refine wpAnyH_take (i:=6) (v:=?_) (by first|(simp only [List.getElem?_toArray,List.getElem?_cons_succ,List.getElem?_cons_zero]<;>rfl)|rfl) (by kernel_rfl) (by kernel_rfl) (by kernel_rfl) (by exact fun _ _ _ h=>h) (Or.inl ⟨by rfl,?_⟩) hHeld0 ?_
     rotate_left 1
     ·intro w hSw
      try dsimp only at hSw
      (go_simp)<;>(with_reducible rfl)
     try simp only [Act.put,List.setIfInBounds_toArray,List.set_cons_zero,List.set_cons_succ]
     refine wpAnyH_take (i:=7) (v:=?_) (by first|(simp only [List.getElem?_toArray,List.getElem?_cons_succ,List.getElem?_cons_zero]<;>rfl)|rfl) (by kernel_rfl) (by kernel_rfl) (by kernel_rfl) (by exact fun _ _ _ h=>h) (Or.inl ⟨by rfl,?_⟩) hHeld0 ?_
     rotate_left 1
     ·intro w hSw
      try dsimp only at hSw
      (go_simp)<;>(with_reducible rfl)
     try simp only [Act.put,List.setIfInBounds_toArray,List.set_cons_zero,List.set_cons_succ]
     refine wpAnyH_take (i:=8) (v:=?_) (by first|(simp only [List.getElem?_toArray,List.getElem?_cons_succ,List.getElem?_cons_zero]<;>rfl)|rfl) (by kernel_rfl) (by kernel_rfl) (by kernel_rfl) (by exact fun _ _ _ h=>h) (Or.inl ⟨by rfl,?_⟩) hHeld0 ?_
     rotate_left 1
     ·intro w hSw
      try dsimp only at hSw
      (go_simp)<;>(with_reducible rfl)
     try simp only [Act.put,List.setIfInBounds_toArray,List.set_cons_zero,List.set_cons_succ]
     refine wpAnyH_take (i:=9) (v:=?_) (by first|(simp only [List.getElem?_toArray,List.getElem?_cons_succ,List.getElem?_cons_zero]<;>rfl)|rfl) (by kernel_rfl) (by kernel_rfl) (by kernel_rfl) (by exact fun _ _ _ h=>h) (Or.inl ⟨by rfl,?_⟩) hHeld0 ?_
     rotate_left 1
     ·intro w hSw
      try dsimp only at hSw
      (go_simp)<;>(with_reducible rfl)
     try simp only [Act.put,List.setIfInBounds_toArray,List.set_cons_zero,List.set_cons_succ]
     refine wpAnyH_ready (rs:=[10]) (by kernel_rfl) (by simp) ?_
     refine AllReadyH.cons (by first|(simp only [List.getElem?_toArray,List.getElem?_cons_succ,List.getElem?_cons_zero]<;>rfl)|rfl) (fun K hK=>?_) ?_
     ·go_simp
      refine hK.out _ _ ?_ (fun hHeld1=>?_)
      ·exact ⟨cell_below hHeld0.1 (oneb _ _),cell_below hHeld0.2.1 (oneb _ _),cell_below hHeld0.2.2.1 (oneb _ _),cell_below hHeld0.2.2.2 (oneb _ _)⟩
      clear hK K
      have hbb:=oneb vh0 (.cells #[.int .u32 0,.int .u32 0,.slice none 0 0] 86)
      have hN:=Bk.new vh0 86 #[.int .u32 0,.int .u32 0,.slice none 0 0] (l:=[.int .u32 0,.int .u32 0,.slice none 0 0]) rfl
      generalize World.alloc vh0 _=vh1 at hbb hN hHeld1 ⊢
      have HBv:=Lib.hid (HBv.out.trans (hbb.mono HBv.out.size))
      have hgw:=HBv.out.size
      have hvs:=Lib.hid (Nat.le_refl vh0.heap.size)
      have HGw:=Lib.hid hHv0.size
      generalize vh0.heap.size=g at hN HGw hvs ⊢
      have n0:=hN.cell 0 rfl
      have n1:=hN.cell 1 rfl
      have n2:=hN.cell 2 rfl
      have z0:=hN.fz 0
      have z1:=hN.fz 1
      have z2:=hN.fz 2
      have nl:=hN.lt
      have HN1:=Lib.hid hN
      clear hbb hN hgw hvs hHeld0
      try simp only [Act.put,List.setIfInBounds_toArray,List.set_cons_zero,List.set_cons_succ]
      refine wpAnyH_ready (rs:=[11]) (by kernel_rfl) (by simp) ?_
      refine AllReadyH.cons (by first|(simp only [List.getElem?_toArray,List.getElem?_cons_succ,List.getElem?_cons_zero]<;>rfl)|rfl) (fun K hK=>?_) ?_
      ·go_simp
       refine hK.out _ _ ?_ (fun hHeld2=>?_)
       ·exact ⟨cell_grow3 hHeld1.1 (by have:=HGw.out;omega),cell_grow3 hHeld1.2.1 (by have:=HGw.out;omega),cell_grow3 hHeld1.2.2.1 (by have:=HGw.out;omega),cell_grow3 hHeld1.2.2.2 (by have:=HGw.out;omega)⟩
       clear hK K
       try simp only [Act.put,List.setIfInBounds_toArray,List.set_cons_zero,List.set_cons_succ]
       refine wpAnyH_done (by kernel_rfl) ?_ _
       have hN3:=((HN1.out.set 0 (.int .u32 num)).set 1 (.int .u32 act)).set 2 (.slice A9 nc c9)
       have hB3:=(HBv.out.grown (set3_grown vh1 g (.int .u32 num) (.int .u32 act) (.slice A9 nc c9)) HBv.out.size (fun k e=>by cases e;exact HGw.out))
       clear n0 n1 n2 z0 z1 z2 nl hHeld2
       generalize hw3:World.setCell (World.setCell (World.setCell vh1 _ _) _ _) _ _=w3 at hN3 hB3 ⊢
       clear hw3
       have n0:w3.cell? ⟨g,0,none⟩=some (.int .u32 num):=hN3.cell 0 rfl
       have n2:w3.cell? ⟨g,2,none⟩=some (.slice A9 nc c9):=hN3.cell 2 rfl
       have nl:=hN3.lt
       have HB3:=Lib.hid (HB.out.trans (hB3.mono HB.out.size))
       have HO3:=Lib.hid (own_keepN HO.out hB3)
       have HN3:=Lib.hid hN3
       clear hN3 hB3 HBv HN1
       go_upto_region 8 with fail
       have hb4:=oneb w3 (.cells #[.int .u32 num,.int .u32 3221225534,.int .u64 pk,.int .u64 0,.int .u64 0,.int .u64 0,.int .u64 0,.int .u64 0,.int .u64 0] 60)
       have hk4:=Bk.new w3 60 #[.int .u32 num,.int .u32 3221225534,.int .u64 pk,.int .u64 0,.int .u64 0,.int .u64 0,.int .u64 0,.int .u64 0,.int .u64 0] (l:=(RcM.mk num 3221225534 pk 0 0 0 0 0 0).cells) rfl
       generalize World.alloc w3 _=wq at hb4 hk4 ⊢
       have HB4:=Lib.hid (HB3.out.trans (hb4.mono HB3.out.size))
       have HO4:=Lib.hid (own_keepN HO3.out hb4)
       have n2:=(HN3.out.kept hb4).cell 2 rfl
       have nl:=(HN3.out.kept hb4).lt
       have hgl:=hk4.lt
       have hg3:g<w3.heap.size:=HN3.out.lt
       have HCq:=Lib.hid ((HR.out.below HB4.out).c _ HMem.out)
       have HLo:=Lib.hid (fun k hk=>(HO3.out.lt k hk))
       have HFl:=Lib.hid (show Fl wq wq w3.heap.size (RcM.mk num 3221225534 pk 0 0 0 0 0 0) from ⟨hk4,⟨HOr.out.1,by simp,by simp only;omega,by simp,by simp,by simp,by simp,by simp,by simp⟩,⟨rfl,rfl,rfl,Nat.le_refl _,fun _ _ _=>rfl⟩⟩)
       have HG3s:=Lib.hid (show w2.heap.size≤w3.heap.size from HB3.out.size)
       clear hk4 hb4 HB3 HO3 HN3 n0 hg3
       generalize w3.heap.size=g4 at hgl HFl HLo HG3s ⊢
       go_wp2_with fail
       clear n2
       go_loopw [50] (fun iv wy=>∃(j:Nat) (x:RcM),iv=.int .i64 j∧j≤nc∧Hid (Fl wq wy g4 x)) (fun iv _=>nc-(intOf iv).toNat)
       case atStart=>exact ⟨0,_,rfl,Nat.zero_le _,HFl⟩
       case round=>
        rename World=>wy
        obtain ⟨j,x,rfl,hj,HF⟩:=hrel
        have hsy:=HF.out.grow.size
        by_cases hjn:j<nc
        ·obtain ⟨c,hc⟩:∃c,cs[j]?=some c:=⟨_,List.getElem?_eq_getElem (by have:=HNc.out;omega)⟩
         have hrd:=HCq.out.grownO (HOff.out g4 HG3s.out) HF.out.grow
         change Rd _ 4 cs.length A9 (cs.flatMap CondM.cells) at hrd
         rw [←HNc.out] at hrd
         obtain ⟨b5,o5,hA5,hb5,hcell⟩:=hrd.one (fun _=>rfl) (by omega) (by omega)
         subst hA5
         obtain ⟨c0,c1,c2,c3⟩:=cond_cells hcell hc
         have hcok:=HOr.out.2.2.2 c (List.mem_of_getElem? hc)
         have k1:=hcok.2.2.2.2
         clear hcell hrd hc
         go_upto_region 11 with fail
         have hbx:=oneb wy (.cells #[.int .i64 c.arg,.int .u8 c.op,.int .u64 c.mask,.int .u64 c.val] 89)
         have hkx:=Bk.new wy 89 #[.int .i64 c.arg,.int .u8 c.op,.int .u64 c.mask,.int .u64 c.val] (l:=[.int .i64 c.arg,.int .u8 c.op,.int .u64 c.mask,.int .u64 c.val]) rfl
         clear c0 c1 c2 c3
         generalize World.alloc wy _=wz at hbx hkx ⊢
         have HFz:=Lib.hid (HF.out.kept hbx)
         have r0:=hkx.cell 0 rfl
         have r3:=hkx.cell 3 rfl
         have rl:=hkx.lt
         clear hkx hbx
         generalize wy.heap.size=g5 at r0 r3 rl hsy ⊢
         by_cases h1:0≤c.arg
         ·have d1:decide (0≤c.arg)=true:=decide_eq_true h1
          by_cases h2:c.arg≤5
          ·have d2:decide (c.arg≤5)=true:=decide_eq_true h2
           obtain ⟨k,hk⟩:∃k:Nat,c.arg=k:=⟨c.arg.toNat,by omega⟩
           rw [hk] at r0 h1 h2 d1 d2
           clear hk hcok
           have hk6:k<6:=by omega
           have hki:(k:Int)<6:=by omega
           have fx:=HFz.out.bk.cell (3+k) (RcM.arg_cell x hk6)
           have fz:=HFz.out.bk.fz (3+k)
           have fl:=HFz.out.bk.lt
           go_wp2_with fail
           go_roundw
           case rel=>exact fl_rel HFz.out hk6 hjn
           case measure=>simp [intOf];omega
          ·have d2:decide (c.arg≤5)=false:=decide_eq_false h2
           clear hcok
           go_wp2_with fail
           go_roundw
           case rel=>exact ⟨j+1,x,by go_num,by omega,HFz⟩
           case measure=>simp [intOf];omega
         ·have d1:decide (0≤c.arg)=false:=decide_eq_false h1
          clear hcok
          go_wp2_with fail
          go_roundw
          case rel=>exact ⟨j+1,x,by go_num,by omega,HFz⟩
          case measure=>simp [intOf];omega
        ·have HBy:=Lib.hid (HB4.out.grown HF.out.grow HB4.out.size (fun k e=>by cases e;exact HG3s.out))
         have HOy:=Lib.hid (own_keep HO4.out HF.out.grow (fun b hb=>by have:=(HLo.out b hb).2;omega))
         have f0:=HF.out.bk.cell 0 rfl
         have f1:=HF.out.bk.cell 1 rfl
         have f2:=HF.out.bk.cell 2 rfl
         have f3:=HF.out.bk.cell 3 rfl
         have f4:=HF.out.bk.cell 4 rfl
         have f5:=HF.out.bk.cell 5 rfl
         have f6:=HF.out.bk.cell 6 rfl
         have f7:=HF.out.bk.cell 7 rfl
         have f8:=HF.out.bk.cell 8 rfl
         have fl:=HF.out.bk.lt
         have HXo:=Lib.hid HF.out.ok
         clear hsy
         go_wp2_with (at_builtin;go_loud (refine append_list rfl (.tmp 83) (.tmp 85) 36 60 rfl _ 9 64 infoRec Tryz.underlying36 rfl (by decide) (by decide) w2.heap.size _ rs.length (rs.flatMap RcM.cells) rfl (own_keepN HOy.out (oneb wy _)) (some ⟨wy.heap.size,0,none⟩) 1 1 x.cells rfl (fun e=>by cases e) (rd_new wy _ (l:=x.cells) (n:=1) rfl rfl) (rec_one x) (by omega) (by have:=HBy.out.size;simp;omega) ?_);intro v' w8 hown' hgrow hat;have hoa:=own_keepN HOy.out (oneb wy (.cells #[.int .u32 x.num,.int .u32 x.arch,.int .u64 x.at_,.int .u64 x.a0,.int .u64 x.a1,.int .u64 x.a2,.int .u64 x.a3,.int .u64 x.a4,.int .u64 x.a5] 60));have hba:=(HBy.out.trans ((oneb wy (.cells #[.int .u32 x.num,.int .u32 x.arch,.int .u64 x.at_,.int .u64 x.a0,.int .u64 x.a1,.int .u64 x.a2,.int .u64 x.a3,.int .u64 x.a4,.int .u64 x.a5] 60)).mono HBy.out.size)).grown hgrow (Nat.le_trans HBy.out.size (by simp)) (fun g hg=>(hoa.lt g hg).1);have HB8:=Lib.hid hba;have HO8:=Lib.hid hown';clear hown' hgrow hat hoa hba)
         go_wp2_with fail
         go_roundw
         case rel=>exact ⟨k+1,rs++[x],by go_num,by omega,by omega,by simp;omega,Lib.hid (fun y hy=>by rcases List.mem_append.1 hy with hy|hy;exact HOk.out y hy;simp only [List.mem_singleton] at hy;subst hy;exact HXo.out),Lib.hid (by rw [List.length_append,List.flatMap_append];simpa using HO8.out),HB8⟩
         case measure=>simp [intOf];omega
      exact AllReadyH.nil
     exact AllReadyH.nil
  ·go_wp2_with fail
   go_ret
   exact recs_end HO.out (by omega) HOk.out HB0.out.size (HB0.out.trans (HB.out.mono HB0.out.size))
theorem records_any (nm:ByteArray) (d:Nat) (rules:List RuleV) (RA:Option Addr) (nR Rc hd:Nat) (PA:Option Addr) (nP Pc:Nat) (QA:Option Addr) (nQ Qc:Nat) (l:List RcM) (A:Option Addr) (n c:Nat) (pl:List Nat) (PB:Option Addr) (pn pc:Nat) (w:World)
  (hn:rules.length=nR) (hl:nR≤1000) (hR:RRd w rules RA) (hln:l.length=n) (hn20:n≤20) (hlok:∀x∈l,x.ok) (hA:A=none→n=0∧c=0) (hlR:Rd w 9 n A (l.flatMap RcM.cells)) (hpn:pl.length=pn) (hpm:pn≤maxLen) (hp8:∀x∈pl,x<256) (hpR:Rd w 1 pn PB (u8s pl)) :
  Calls Tryz.prog 17 #[.agg #[.string nm,.int .u32 d,.slice RA nR Rc,.int .u16 hd,.slice PA nP Pc,.slice QA nQ Qc],.slice A n c,.slice PB pn pc] w (RecsPost w):=
 (records_anyO nm d rules RA nR Rc hd PA nP Pc QA nQ Qc l A n c pl PB pn pc w hn hl hR hln hn20 hlok hA hlR hpn hpm hp8 hpR).mono fun _ _ ⟨⟨rs,A,c,he,h1,h2,h3⟩,hb⟩=>⟨⟨rs,A,c,he,h1,h2,by obtain ⟨A',c',e',_,ht,_,_⟩:=own_typed h3;cases e';exact ht⟩,hb⟩
end Go.Proofs.YtcnebdjhhfnmoaaGreatDoor.Me
namespace Go.Proofs.YtcnebdjhhfnmoaaGreatDoor.Me
open Go.RowKit Go.WideElems
end Go.Proofs.YtcnebdjhhfnmoaaGreatDoor.Me
