/- Make, walked. -/
import Derived.Test.YtcnebdjhhfnmoaaGreatDoorL04
import Derived.Test.YtcnebdjhhfnmoaaGreatDoorL07
import Derived.Test.YtcnebdjhhfnmoaaGreatDoorL05
import Derived.StillTail
import Derived.StillTailTactics
import Derived.RangeFuncNested
import Derived.RangeFuncCalls
import Derived.TacticsIn
import Derived.Test.YtcnebdjhhfnmoaaGreatDoorProg
import Derived.Deep.RegionHeld3
import Derived.Lib.Hide
import Derived.Test.YtcnebdjhhfnmoaaGreatDoorL01
set_option maxHeartbeats 32000000
set_option maxRecDepth 100000
namespace Go.Proofs.YtcnebdjhhfnmoaaGreatDoor.Ju
open Go.RowKit Go.Shelf
attribute [local go_sem] Oper.semAt_some
def foldM (l:List PtM):Nat×CdM:=l.foldl (fun r q=>stepF q r) (0,⟨[],[]⟩)
theorem foldM_snoc (l:List PtM)(q:PtM):foldM (l++[q])=stepF q (foldM l):=by unfold foldM;rw [List.foldl_append];rfl
theorem foldM_rev (l:List PtM):foldM l.reverse=makeF l:=by unfold foldM makeF;rw [List.foldl_reverse]
theorem foldM_bnd (l:List PtM):Bnd (foldM l).2:=by have:=make_bnd l.reverse;rw [←foldM_rev,List.reverse_reverse] at this;exact this
theorem foldM_len {l:List PtM}(h:(foldM l).1=0):(foldM l).2.ins.length≤4096:=by
 have e:foldM l=makeF l.reverse:=by rw [←foldM_rev,List.reverse_reverse]
 rw [e] at h ⊢;exact make_len _ h
theorem keeps_fr {w w':World}{p m B:Nat}{v v':Value}{c:CdM}(hC:CR w p m B v c)(hF:Fr p m v v' w w'):KeepsFrom B w w':=
 ⟨hF.size,fun k o hB hk ho=>(hF.block k (Array.getElem?_eq_some_iff.1 hk).1 (by have:=hC.pB;omega) (by have:=hC.mB;omega) (fun e=>by
  obtain ⟨h1,⟨h2,h3⟩|⟨g',cap,cur,h2,h3,h4,h5⟩⟩:=hC.row
  ·subst h2;cases e
  ·subst h2;injection e with e;subst e;rw [h4] at hk;injection hk with hk;subst hk;cases ho)).trans hk⟩
theorem kb_fr {w w':World}{p m B N Bs:Nat}{v v':Value}{c:CdM}(hC:CR w p m B v c)(hF:Fr p m v v' w w')(hp:N≤p)(hm:N≤m)(hNB:N≤B)(h1:Bs<B)(h2:Bs≠p)(h3:Bs≠m):KB N Bs w w':=
 ⟨hF.below (Nat.le_trans hNB hC.le) hp hm (fun g hg=>by have:=(own_ge hC.row g hg).1;omega),hF.block Bs (Nat.lt_of_lt_of_le h1 hC.le) h2 h3 (fun e=>by have:=(own_ge hC.row Bs e.symm).1;omega)⟩
structure StM (w:World)(n cap N:Nat)(A:Option Addr){l:List PtM}(pre:List (Pa l))(W:World):Prop where
 ok:(foldM (pre.map Pa.pt)).1=0
 rb:Bk W N 47 [.slice none 0 0]
 eb:Bk W (N+1) 44 [.int .i64 0]
 bx:Bk W (N+4) 67 [.slice A n cap]
 cr:∃v,CR W (N+3) (N+2) (N+5) v (foldM (pre.map Pa.pt)).2
 bel:Below w.heap.size w W
 bl:(foldM (pre.map Pa.pt)).2.bh.length≤pre.length
 NN:w.heap.size≤N
def IxM (w:World)(N:Nat){l:List PtM}(c:Code)(pre:List (Pa l))(W:World):Prop:=
 c=.ret∧(foldM (pre.map Pa.pt)).1≠0∧Bk W N 47 [.slice none 0 0]∧Bk W (N+1) 44 [.int .i64 (foldM (pre.map Pa.pt)).1]∧Below w.heap.size w W∧w.heap.size≤N
theorem own_keepC {w w':World}{base:Nat}{e:TypeId}{z n:Nat}{v:Value}{xs:List Value}{row:Option Nat}(h:w.ownsRow base e z v n xs)(hg:w.grownBy w' row)(hr:∀r,row=some r→∃o:Obj,w.heap[r]?=some o∧o.isCells=false):w'.ownsRow base e z v n xs:=by
 obtain ⟨h1,h2|⟨g,cap,cur,e,h3,h4,h5⟩⟩:=h
 ·exact ⟨h1,Or.inl h2⟩
 ·refine ⟨h1,Or.inr ⟨g,cap,cur,e,h3,(hg.block g (Array.getElem?_eq_some_iff.1 h4).1 (fun e=>?_)).trans h4,h5⟩⟩
  obtain ⟨o,ho,hc⟩:=hr g e.symm
  rw [h4] at ho;cases ho;cases hc
theorem bk_keepC {w w':World}{g t:Nat}{l:List Value}{row:Option Nat}(h:Bk w g t l)(hg:w.grownBy w' row)(hr:∀r,row=some r→∃o:Obj,w.heap[r]?=some o∧o.isCells=false):Bk w' g t l:=
 h.grown hg (fun e=>by obtain ⟨o,ho,hc⟩:=hr g e.symm;unfold Bk at h;rw [h] at ho;cases ho;cases hc)
theorem CR.keepC {w w':World}{p m B:Nat}{v:Value}{c:CdM}{row:Option Nat}(h:CR w p m B v c)(hg:w.grownBy w' row)(hr:∀r,row=some r→B≤r∧∃o:Obj,w.heap[r]?=some o∧o.isCells=false):CR w' p m B v c:=
 ⟨bk_keepC h.box hg (fun r e=>(hr r e).2),own_keepC h.row hg (fun r e=>(hr r e).2),h.mp.grown hg (fun e=>by have:=(hr m e.symm).1;have:=h.mB;omega),h.pB,h.mB,h.pm,Nat.le_trans h.le hg.size⟩
theorem StM.keepC {w:World}{n cap N:Nat}{A:Option Addr}{l:List PtM}{pre:List (Pa l)}{W W':World}{row:Option Nat}(h:StM w n cap N A pre W)(hg:W.grownBy W' row)(hr:∀r,row=some r→N+5≤r∧∃o:Obj,W.heap[r]?=some o∧o.isCells=false):StM w n cap N A pre W':=
 ⟨h.ok,bk_keepC h.rb hg (fun r e=>(hr r e).2),bk_keepC h.eb hg (fun r e=>(hr r e).2),bk_keepC h.bx hg (fun r e=>(hr r e).2),by obtain ⟨v,hc⟩:=h.cr;exact ⟨v,hc.keepC hg hr⟩,h.bel.grown hg h.bel.size (fun r e=>by have:=(hr r e).1;have:=h.NN;omega),h.bl,h.NN⟩
theorem IxM.keepC {w:World}{N:Nat}{l:List PtM}{c:Code}{pre:List (Pa l)}{W W':World}{row:Option Nat}(h:IxM w N c pre W)(hg:W.grownBy W' row)(hr:∀r,row=some r→N+5≤r∧∃o:Obj,W.heap[r]?=some o∧o.isCells=false):IxM w N c pre W':=by
 obtain ⟨h1,h2,h3,h4,h5,h6⟩:=h
 exact ⟨h1,h2,bk_keepC h3 hg (fun r e=>(hr r e).2),bk_keepC h4 hg (fun r e=>(hr r e).2),h5.grown hg h5.size (fun r e=>by have:=(hr r e).1;omega),h6⟩
theorem lay_bl (q:PtM)(c:CdM):(layF q c).2.bh.length≤c.bh.length+1:=by
 unfold layF
 split
 ·split<;>simp
 ·split
  ·split<;>simp
  ·split
   ·split
    ·simp
    ·split<;>simp
   ·split
    ·split<;>simp
    ·simp
theorem own_isCells {w:World}{B:Nat}{e:TypeId}{z n j:Nat}{v:Value}{xs:List Value}{o:Obj}(h:w.ownsRow B e z v n xs)(hv:v.ownBlock=some j)(ho:w.heap[j]?=some o):o.isCells=true:=by
 obtain ⟨h1,⟨h2,h3⟩|⟨g',cap,cur,h2,h3,h4,h5⟩⟩:=h
 ·subst h2;cases hv
 ·subst h2;injection hv with hv;subst hv;rw [h4] at ho;injection ho with ho;subst ho;rfl
def MakePost (l:List PtM)(w:World)(e:Ending)(w':World):Prop:=
 Below w.heap.size w w'∧((makeF l).1=0→∃v,w'.ownsRow w.heap.size 76 4 v (makeF l).2.ins.length ((makeF l).2.ins.flatMap Ins.cells)∧e=.returned (.tuple #[v,.int .i64 0]))∧((makeF l).1≠0→e=.returned (.tuple #[.slice none 0 0,.int .i64 (makeF l).1]))
theorem stm_0 (l:List PtM)(w:World)(n cap:Nat)(A:Option Addr):StM w n cap w.heap.size A ([]:List (Pa l)) (((((w.alloc (.cells #[.slice none 0 0] 47)).alloc (.cells #[.int .i64 0] 44)).alloc (.map #[] 0)).alloc (.cells #[.slice none 0 0,.map (some (w.heap.size+2))] 171)).alloc (.cells #[.slice A n cap] 67)) ∧
  (((((w.alloc (.cells #[.slice none 0 0] 47)).alloc (.cells #[.int .i64 0] 44)).alloc (.map #[] 0)).alloc (.cells #[.slice none 0 0,.map (some (w.heap.size+2))] 171)).alloc (.cells #[.slice A n cap] 67)).heap.size=w.heap.size+5:=by
 obtain ⟨w1,h1⟩:∃x,x=w.alloc (.cells #[.slice none 0 0] 47):=⟨_,rfl⟩
 obtain ⟨w2,h2⟩:∃x,x=w1.alloc (.cells #[.int .i64 0] 44):=⟨_,rfl⟩
 obtain ⟨w3,h3⟩:∃x,x=w2.alloc (.map #[] 0):=⟨_,rfl⟩
 obtain ⟨w4,h4⟩:∃x,x=w3.alloc (.cells #[.slice none 0 0,.map (some (w.heap.size+2))] 171):=⟨_,rfl⟩
 obtain ⟨w5,h5⟩:∃x,x=w4.alloc (.cells #[.slice A n cap] 67):=⟨_,rfl⟩
 rw [←h1,←h2,←h3,←h4,←h5]
 have s1:w1.heap.size=w.heap.size+1:=by rw [h1];simp
 have s2:w2.heap.size=w.heap.size+2:=by rw [h2];simp [s1]
 have s3:w3.heap.size=w.heap.size+3:=by rw [h3];simp [s2]
 have s4:w4.heap.size=w.heap.size+4:=by rw [h4];simp [s3]
 have s5:w5.heap.size=w.heap.size+5:=by rw [h5];simp [s4]
 have b1:Below w.heap.size w w1:=by rw [h1];exact oneb w _
 have b2:Below w1.heap.size w1 w2:=by rw [h2];exact oneb w1 _
 have b3:Below w2.heap.size w2 w3:=by rw [h3];exact oneb w2 _
 have b4:Below w3.heap.size w3 w4:=by rw [h4];exact oneb w3 _
 have b5:Below w4.heap.size w4 w5:=by rw [h5];exact oneb w4 _
 have k0:Bk w1 w.heap.size 47 [.slice none 0 0]:=by rw [h1];exact Bk.new w _ _ rfl
 have k1:Bk w2 w1.heap.size 44 [.int .i64 0]:=by rw [h2];exact Bk.new w1 _ _ rfl
 have k2:NMap w3 3 w2.heap.size []:=by rw [h3];exact NMap.made w2 _
 have k3:Bk w4 w3.heap.size 171 [.slice none 0 0,.map (some (w.heap.size+2))]:=by rw [h4];exact Bk.new w3 _ _ rfl
 have k4:Bk w5 w4.heap.size 67 [.slice A n cap]:=by rw [h5];exact Bk.new w4 _ _ rfl
 rw [s1] at k1
 rw [s2] at k2
 rw [s3] at k3
 rw [s4] at k4
 refine ⟨⟨rfl,(((k0.kept b2).kept b3).kept b4).kept b5,((k1.kept b3).kept b4).kept b5,k4,⟨.slice none 0 0,k3.kept b5,World.ownsRow_nil _ _ _ _,((k2.below b4).below b5),by omega,by omega,by omega,by omega⟩,?_,Nat.le_refl _,Nat.le_refl _⟩,s5⟩
 exact (((b1.trans (b2.mono (by omega))).trans (b3.mono (by omega))).trans (b4.mono (by omega))).trans (b5.mono (by omega))
theorem stm_fr {w:World}{n cap N:Nat}{A:Option Addr}{l:List PtM}{pre:List (Pa l)}{W W':World}{v v':Value}{c:CdM}(h:StM w n cap N A pre W)(hC:CR W (N+3) (N+2) (N+5) v c)(hF:Fr (N+3) (N+2) v v' W W') :
  Bk W' N 47 [.slice none 0 0]∧Bk W' (N+1) 44 [.int .i64 0]∧Bk W' (N+4) 67 [.slice A n cap]∧Below w.heap.size w W'∧KB w.heap.size (N+4) W W'∧KeepsFrom (N+5) W W':=by
 have hg:=own_ge hC.row
 have hN:=h.NN
 refine ⟨Bk.fr h.rb hF (by omega) (by omega) (fun e=>by have:=(hg _ e.symm).1;omega),Bk.fr h.eb hF (by omega) (by omega) (fun e=>by have:=(hg _ e.symm).1;omega),Bk.fr h.bx hF (by omega) (by omega) (fun e=>by have:=(hg _ e.symm).1;omega),?_,?_,keeps_fr hC hF⟩
 ·exact h.bel.trans (hF.below h.bel.size (by omega) (by omega) (fun g hg2=>by have:=(hg g hg2).1;omega))
 ·exact kb_fr hC hF (by omega) (by omega) (by omega) (by omega) (by omega) (by omega)
theorem ret_two {w W wc:World}{N B tI tE:Nat}{x:Int}{u:Value}(h1:Bk wc N tI [u])(h2:Bk wc (N+1) tE [.int .i64 0])(hb:Below w.heap.size w wc)(hk:KeepsFrom B W wc)(hN:w.heap.size≤N){v:Value} :
  KeepsFrom B W ((wc.setCell ⟨N,0,none⟩ v).setCell ⟨N+1,0,none⟩ (.int .i64 x))∧Bk ((wc.setCell ⟨N,0,none⟩ v).setCell ⟨N+1,0,none⟩ (.int .i64 x)) N tI [v]∧Bk ((wc.setCell ⟨N,0,none⟩ v).setCell ⟨N+1,0,none⟩ (.int .i64 x)) (N+1) tE [.int .i64 x]∧Below w.heap.size w ((wc.setCell ⟨N,0,none⟩ v).setCell ⟨N+1,0,none⟩ (.int .i64 x)):=by
 have g1:=only_set wc N 0 v
 have g2:=only_set (wc.setCell ⟨N,0,none⟩ v) (N+1) 0 (.int .i64 x)
 exact ⟨(hk.trans ((KeepsOthers.setCell _ _ _).from _)).trans ((KeepsOthers.setCell _ _ _).from _),(h1.set 0 v).grown g2 (fun e=>by injection e with e;omega),(h2.grown g1 (fun e=>by injection e with e;omega)).set 0 _,only_below (only_below hb g1 hb.size hN) g2 (Nat.le_trans hb.size g1.size) (by omega)⟩
theorem make_any (l:List PtM)(n:Nat)(A:Option Addr)(cap:Nat)(w:World)(hl:l.length=n)(hn:n≤65536)(hok:∀q∈l,q.ok)(hr:Rd w 7 n A (l.flatMap PtM.cells)) :
  Calls Tryz.prog 25 #[.slice A n cap] w (MakePost l w):=by
 have HOK:=qd hok
 have HR:=qd hr
 have HL:=qd hl
 clear hok hr hl
 have hmm:=@run_makeMap Tryz.prog
 refine (callsIn_wide (n:=8)).1 ?_
 refine callsIn_of_wp_marks Tryz.func25 rfl trivial ?_ rfl
 simp only [Tryz.ntmps25,List.size_toArray,List.length_cons,List.length_nil,Nat.reduceAdd,Nat.reduceSub,Array.replicate_succ,Array.replicate_zero,List.push_toArray,List.append_toArray,List.nil_append,List.cons_append]
 gi_wp2_with (first|(refine ⟨trivial,?_⟩;gi_at_call 60;refine (backward_in _ _ _ _ _).mono ?_;rintro e w' ⟨rfl,rfl⟩))
 simp only [Nat.add_assoc,Nat.reduceAdd]
 obtain ⟨hst0,hsz0⟩:=stm_0 l w n cap A
 revert hst0 hsz0
 generalize (((((w.alloc (.cells #[.slice none 0 0] 47)).alloc (.cells #[.int .i64 0] 44)).alloc (.map #[] 0)).alloc (.cells #[.slice none 0 0,.map (some (w.heap.size+2))] 171)).alloc (.cells #[.slice A n cap] 67))=W0
 intro hst0 hsz0
 have HS0:=qd hst0
 clear hst0 hmm
 refine wpIn_rangeFunc_ownH rfl (by omega) (gf:=106) (lb:=#[.pointer (some ⟨w.heap.size+4,0,none⟩)]) rfl trivial (enters_of Tryz.func106 (by kernel_rfl) rfl)
  (back_stops 7 (by omega) (w.heap.size+4) w.heap.size n cap A hn l HL.out W0 (by omega) (by omega) (HS0.out.bx.cell 0 rfl) (fun W' h=>HR.out.below (HS0.out.bel.trans h))) KB.trans (kb_put (by omega) (by omega)) (Below.refl _ _) (fun _=>rfl)
  (StM w n cap w.heap.size A) (IxM w w.heap.size)
  (fun pre X X' row hs hg hr=>hs.keepC hg (fun r e=>⟨by have:=(hr r e).1;omega,(hr r e).2⟩))
  (fun c pre X X' row hs hg hr=>hs.keepC hg (fun r e=>⟨by have:=(hr r e).1;omega,(hr r e).2⟩))
  HS0.out
  (fun x a' W=>∃g,a'={ tmps:=#[.slice A n cap,undef,.pointer (some ⟨w.heap.size,0,none⟩),.pointer (some ⟨w.heap.size+1,0,none⟩),.pointer (some ⟨w.heap.size+3,0,none⟩),undef,.pointer (some ⟨g,0,none⟩),undef,.map (some (w.heap.size+2)),.agg #[.slice none 0 0,.map (some (w.heap.size+2))],.slice A n cap,.func (.func 106) #[] #[.pointer (some ⟨w.heap.size+4,0,none⟩)],.int .i64 (x.1.1:Int),.agg #[.int .u8 x.1.2.kd,.int .i64 x.1.2.tQ,.int .i64 x.1.2.el,.int .u16 x.1.2.i.c,.int .u8 x.1.2.i.t,.int .u8 x.1.2.i.f,.int .u32 x.1.2.i.k],undef,undef,undef,undef,undef,undef,undef,undef,undef,undef,undef,undef,undef,undef],defers:=[] }∧Bk W g 78 (PtM.cells x.1.2))
  (fun x a' _ X Z row hs hg hr=>by obtain ⟨g,e,hb⟩:=hs;exact ⟨g,e,bk_keepC hb hg (fun r e=>(hr r e).2)⟩)
  ?assign ?body ?done ?stop
 case assign=>
  intro L pre x W K hS hK
  unfold handed
  gi_wp2
  refine hK _ _ (KeepsFrom.of_grownBy (row:=none) (World.grownBy_alloc W _ none) (fun j e=>by cases e)) ⟨(oneb W _).mono hS.bel.size,Below.heap_alloc W _ _ hS.bx.lt⟩ (hS.keepC (World.grownBy_alloc W _ none) (fun r e=>by cases e)) ⟨W.heap.size,rfl,Bk.new W _ _ rfl⟩
 case body=>
  rintro L pre x a' W hl ⟨r,hr⟩ hS ⟨g,rfl,hg⟩ hlt
  have y0:=hg.cell 0 rfl
  have y1:=hg.cell 1 rfl
  have y2:=hg.cell 2 rfl
  have y3:=hg.cell 3 rfl
  have y4:=hg.cell 4 rfl
  have y5:=hg.cell 5 rfl
  have y6:=hg.cell 6 rfl
  have yl:=hg.lt
  obtain ⟨v,hC⟩:=hS.cr
  obtain ⟨c,hc⟩:∃c,c=(foldM (pre.map Pa.pt)).2:=⟨_,rfl⟩
  have hlen:=foldM_len hS.ok
  have hbl:=hS.bl
  have HBn:=qd (foldM_bnd (pre.map Pa.pt))
  rw [←hc] at hC hlen hbl HBn
  have HS:=qd hS
  have HC:=qd hC
  have HStep:=qd (show foldM ((pre++[x]).map Pa.pt)=(if (layF x.1.2 c).1≠0 then layF x.1.2 c else if 4096<(layF x.1.2 c).2.ins.length then (205,(layF x.1.2 c).2) else layF x.1.2 c) by
   rw [List.map_append]
   show foldM (pre.map Pa.pt++[x.1.2])=_
   rw [foldM_snoc];unfold stepF;rw [if_neg (fun h=>h hS.ok),←hc])
  have HLay:=qd (lay_any W (w.heap.size+3) (w.heap.size+2) (w.heap.size+5) v c x.1.2 hC (HOK.out x.1.2 (List.mem_of_getElem? x.2)) HBn.out (by omega) (by omega))
  have hlb:=lay_bl x.1.2 c
  obtain ⟨en,hen⟩:∃en,en=(layF x.1.2 c).1:=⟨_,rfl⟩
  obtain ⟨c2,hc2⟩:∃c2,c2=(layF x.1.2 c).2:=⟨_,rfl⟩
  rw [←hen,←hc2] at HLay HStep
  rw [←hc2] at hlb
  have hen2:(layF x.1.2 c)=(en,c2):=by rw [hen,hc2]
  rw [hen2] at HStep
  clear hg hS hC hc hen hc2 hen2 hl hr r
  obtain ⟨z,hz⟩:∃z,z=c2.ins.length:=⟨_,rfl⟩
  rw [←hz] at HStep
  have HZ:=qd hz
  by_cases h0:en=0
  ·by_cases hbig:4096<z
   ·have g0:((en:Int) != 0)=false:=by rw [h0];rfl
    have g1:(4096:Int)<(z:Int):=by omega
    have g2:decide ((4096:Int)<(z:Int))=true:=decide_eq_true g1
    have HV:=qd (show foldM ((pre++[x]).map Pa.pt)=(205,c2) by rw [HStep.out,if_neg (fun h=>h h0),if_pos hbig])
    clear h0 hbig hz HStep
    gi_wp2_with (refine ⟨trivial,?_⟩;gi_at_call 61;refine (CallsIn.inRound L (callsIn_wide.2 HLay.out)).mono ?_;rintro e wc ⟨rfl,v2,hC2,hF2⟩;obtain ⟨A2,cp2,rfl⟩:=hC2.slice;obtain ⟨k0,k1,kl,kf⟩:=hC2.cells;rw [←HZ.out] at k0;obtain ⟨t0,t1,t2,t3,t4,t5⟩:=stm_fr HS.out HC.out hF2;have HC2:=qd hC2;have HT:=qd (And.intro t0 (And.intro t1 (And.intro t2 (And.intro t3 (And.intro t4 t5)))));have r0:=t0.fz 0;have rl:=t0.lt;have s0:=t1.fz 0;have sl:=t1.lt;have rc:=t0.cell 0 rfl;have sc:=t1.cell 0 rfl;clear hC2 hF2 t0 t1 t2 t3 t4 t5)
    obtain ⟨q1,q2,q3,q4⟩:=ret_two (x:=205) HT.out.1 HT.out.2.1 HT.out.2.2.2.1 HT.out.2.2.2.2.2 (Nat.le_refl _)
    refine ⟨by rw [hsz0];exact q1,rfl,by rw [HV.out];simp,q2,by rw [HV.out];exact q3,q4,Nat.le_refl _⟩
   ·have g0:((en:Int) != 0)=false:=by rw [h0];rfl
    have g1:¬(4096:Int)<(z:Int):=by omega
    have g2:decide ((4096:Int)<(z:Int))=false:=decide_eq_false g1
    have HV:=qd (show foldM ((pre++[x]).map Pa.pt)=(0,c2) by rw [HStep.out,if_neg (fun h=>h h0),if_neg hbig,h0])
    clear h0 hbig hz HStep
    gi_wp2_with (refine ⟨trivial,?_⟩;gi_at_call 61;refine (CallsIn.inRound L (callsIn_wide.2 HLay.out)).mono ?_;rintro e wc ⟨rfl,v2,hC2,hF2⟩;obtain ⟨A2,cp2,rfl⟩:=hC2.slice;obtain ⟨k0,k1,kl,kf⟩:=hC2.cells;rw [←HZ.out] at k0;obtain ⟨t0,t1,t2,t3,t4,t5⟩:=stm_fr HS.out HC.out hF2;have HC2:=qd hC2;have HT:=qd (And.intro t0 (And.intro t1 (And.intro t2 (And.intro t3 (And.intro t4 t5)))));have r0:=t0.fz 0;have rl:=t0.lt;have s0:=t1.fz 0;have sl:=t1.lt;have rc:=t0.cell 0 rfl;have sc:=t1.cell 0 rfl;clear hC2 hF2 t0 t1 t2 t3 t4 t5)
    refine ⟨by rw [hsz0];exact HT.out.2.2.2.2.2,HT.out.2.2.2.2.1,by rw [HV.out],HT.out.1,HT.out.2.1,HT.out.2.2.1,⟨_,by rw [HV.out];exact HC2.out⟩,HT.out.2.2.2.1,?_,Nat.le_refl _⟩
    rw [HV.out,List.length_append];simp only [List.length_cons,List.length_nil];omega
  ·have g0:((en:Int) != 0)=true:=by rw [bne_iff_ne];omega
   have HV:=qd (show foldM ((pre++[x]).map Pa.pt)=(en,c2) by rw [HStep.out,if_pos h0])
   have HNE:=qd h0
   clear h0 hz HStep
   gi_wp2_with (refine ⟨trivial,?_⟩;gi_at_call 61;refine (CallsIn.inRound L (callsIn_wide.2 HLay.out)).mono ?_;rintro e wc ⟨rfl,v2,hC2,hF2⟩;obtain ⟨A2,cp2,rfl⟩:=hC2.slice;obtain ⟨k0,k1,kl,kf⟩:=hC2.cells;rw [←HZ.out] at k0;obtain ⟨t0,t1,t2,t3,t4,t5⟩:=stm_fr HS.out HC.out hF2;have HC2:=qd hC2;have HT:=qd (And.intro t0 (And.intro t1 (And.intro t2 (And.intro t3 (And.intro t4 t5)))));have r0:=t0.fz 0;have rl:=t0.lt;have s0:=t1.fz 0;have sl:=t1.lt;have rc:=t0.cell 0 rfl;have sc:=t1.cell 0 rfl;clear hC2 hF2 t0 t1 t2 t3 t4 t5)
   obtain ⟨q1,q2,q3,q4⟩:=ret_two (x:=(en:Int)) HT.out.1 HT.out.2.1 HT.out.2.2.2.1 HT.out.2.2.2.2.2 (Nat.le_refl _)
   refine ⟨by rw [hsz0];exact q1,rfl,by rw [HV.out];exact HNE.out,q2,by rw [HV.out];exact q3,q4,Nat.le_refl _⟩
 case done=>
  rintro D' ys W hD' hys hS hK
  obtain ⟨v,hC⟩:=hS.cr
  have hok:=hS.ok
  have hlen:=foldM_len hS.ok
  rw [hys,foldM_rev] at hC hok hlen
  obtain ⟨c,hc⟩:∃c,c=(makeF l).2:=⟨_,rfl⟩
  rw [←hc] at hC hlen
  obtain ⟨A2,cp2,rfl⟩:=hC.slice
  obtain ⟨k0,k1,kl,kf⟩:=hC.cells
  have HC:=qd hC
  have HS:=qd hS
  have HK:=qd hK
  have HOk:=qd (And.intro hok hc)
  have HRev:=qd (reverse_any c.ins.reverse c.ins.length (w.heap.size+5) A2 cp2 W (by simp) (by omega) hC.row)
  clear hS hC hok hys hc hK
  gi_wp2_with (refine ⟨trivial,?_⟩;gi_at_call 62;refine (callsIn_wide.2 HRev.out).mono ?_;rintro e wd ⟨rfl,ho,hg⟩;have HO:=qd ho;have HG:=qd hg;have hbx:=HC.out.box.grown hg (fun e=>by have:=(own_ge HC.out.row _ e.symm).1;omega);have k0:=hbx.cell 0 rfl;have kl:=hbx.lt;have hrb:=HS.out.rb.grown hg (fun e=>by have:=(own_ge HC.out.row _ e.symm).1;omega);have heb:=HS.out.eb.grown hg (fun e=>by have:=(own_ge HC.out.row _ e.symm).1;omega);have r0:=hrb.fz 0;have rl:=hrb.lt;have s0:=heb.fz 0;have sl:=heb.lt;have rc:=hrb.cell 0 rfl;have sc:=heb.cell 0 rfl;have HRB:=qd hrb;have HEB:=qd heb;clear ho hg hbx hrb heb)
  clear k0 k1 kl kf r0 rl s0 sl rc sc
  have hkp:KeepsOthers W wd:=KeepsOthers.of_grownBy HG.out (fun j o e hj=>own_isCells HC.out.row e hj)
  have hbl:Below w.heap.size w wd:=HS.out.bel.trans ⟨HG.out.os,HG.out.tape,HG.out.output,HG.out.size,fun i hi=>HG.out.block i (Nat.lt_of_lt_of_le hi HS.out.bel.size) (fun e=>by have:=(own_ge HC.out.row _ e.symm).1;omega)⟩
  obtain ⟨q1,q2,q3,q4⟩:=ret_two (x:=0) (v:=.slice A2 c.ins.length cp2) HRB.out HEB.out hbl (hkp.from 0) (Nat.le_refl _)
  have hK2:=q1.same D' _ (Nat.zero_le _) HK.out rfl
  have hown:=own_keep (own_keep HO.out (only_set wd w.heap.size 0 (.slice A2 c.ins.length cp2)) (fun b hb e=>by have:=(own_ge HO.out b hb).1;omega)) (only_set _ (w.heap.size+1) 0 (.int .i64 0)) (fun b hb e=>by have:=(own_ge HO.out b hb).1;omega)
  refine ⟨by simp,.inl ⟨_,_,rfl,run_takeDeferred hK2,?_⟩⟩
  have hput:=grownBy_putObj' ((wd.setCell ⟨w.heap.size,0,none⟩ (.slice A2 c.ins.length cp2)).setCell ⟨w.heap.size+1,0,none⟩ (.int .i64 0)) D' (.deferred none)
  have hown2:=own_keepC hown hput (fun r e=>by cases e;exact ⟨_,hK2,rfl⟩)
  have y0:=(q2.grown hput (fun e=>by injection e with e;omega)).cell 0 rfl
  have y1:=(q3.grown hput (fun e=>by injection e with e;omega)).cell 0 rfl
  refine ⟨.tuple #[.slice A2 c.ins.length cp2,.int .i64 0],?_,q4.grown hput q4.size (fun r e=>by cases e;omega),fun _=>⟨_,?_,rfl⟩,fun h=>absurd HOk.out.1 h⟩
  ·clear hkp hbl q1 q2 q3 q4 hK2 hown hput hown2
   simp [results,Tryz.results25,go_sem,y0,y1]
  ·rw [←HOk.out.2]
   rw [List.reverse_reverse] at hown2
   exact own_base hown2 (by omega)
 case stop=>
  rintro D' c pre W hD' ⟨q,hq⟩ ⟨rfl,hne,hrb,heb,hbel,_⟩ hK
  have HK:=qd hK
  have HX:=qd (And.intro hne (And.intro hrb (And.intro heb hbel)))
  have HQ:=qd hq
  clear hne hrb heb hbel hK hq
  gi_wp2
  refine ⟨by simp,.inl ⟨_,_,rfl,run_takeDeferred HK.out,?_⟩⟩
  have hput:=grownBy_putObj' W D' (.deferred none)
  obtain ⟨hne,hrb,heb,hbel⟩:=HX.out
  have hbad:makeF l=foldM (pre.map Pa.pt):=by
   have e:foldM (pre.map Pa.pt)=makeF (l.drop q):=by rw [HQ.out,foldM_rev]
   rw [e] at hne ⊢
   exact makeF_bad hne
  rw [←hbad] at hne heb
  have y0:=(hrb.grown hput (fun e=>by injection e with e;omega)).cell 0 rfl
  have y1:=(heb.grown hput (fun e=>by injection e with e;omega)).cell 0 rfl
  refine ⟨.tuple #[.slice none 0 0,.int .i64 (makeF l).1],?_,hbel.grown hput hbel.size (fun r e=>by cases e;omega),fun h=>absurd h hne,fun _=>rfl⟩
  clear hbad hne hrb heb hbel hput
  simp [results,Tryz.results25,go_sem,y0,y1]
end Go.Proofs.YtcnebdjhhfnmoaaGreatDoor.Ju
namespace Go.Proofs.YtcnebdjhhfnmoaaGreatDoor.Ju
open Go.RowKit Go.Maps Go.WideMaps Go.WideElems Go.ChangeMaps
theorem ways_of {n c:Int}{W:List (Int×Int)}(h:(mD W).atKey (.int .i64 n) (.lit (.int .i64 0))=.lit (.int .i64 c)):c=gW n W:=by
 rw [mD_at] at h
 unfold gW
 cases hl:lk n W with
 | none=>rw [hl] at h;injection h with h;injection h with _ h;exact h.symm
 | some v=>rw [hl] at h;injection h with h;injection h with _ h;exact h.symm
theorem grown_below {w w':World}(h:Below w.heap.size w w')(r:Option Nat):w.grownBy w' r:=⟨h.os,h.tape,h.output,h.size,fun i hi _=>h.block i hi⟩
theorem count_any (q:PtM)(k:Int)(m b:Nat)(W:List (Int×Int))(w:World)(hq:q.ok)(hk:-1≤k∧k≤1)(hm:NMap w 3 m W)(hs:SmW b W)(hb:b≤1000000) :
  Calls Tryz.prog 147 #[.map (some m),.agg #[.int .u8 q.kd,.int .i64 q.tQ,.int .i64 q.el,.int .u16 q.i.c,.int .u8 q.i.t,.int .u8 q.i.f,.int .u32 q.i.k],.int .i64 k] w fun e w'=>e=.returned (.tuple #[])∧NMap w' 3 m (cntW q k W)∧w.grownBy w' (some m):=by
 obtain ⟨X,hX⟩:∃X,X=w.alloc (.cells #[.int .u8 q.kd,.int .i64 q.tQ,.int .i64 q.el,.int .u16 q.i.c,.int .u8 q.i.t,.int .u8 q.i.f,.int .u32 q.i.k] 78):=⟨_,rfl⟩
 have hbx:Bk X w.heap.size 78 q.cells:=by rw [hX];exact Bk.new w _ _ rfl
 have hb1:Below w.heap.size w X:=by rw [hX];exact oneb w _
 have HG:=qd (grown_below hb1 (some m))
 have HBx:=qd hbx
 have HM:=qd (hm.below hb1)
 have HXM:=qd (show w.heap.size≠m by have:=hm.lt;omega)
 have hWl:=hs.1
 have t1:=hq.to1
 have t2:=hq.to2
 have l1:=hq.el1
 have l2:=hq.el2
 obtain ⟨u1,hu1⟩:∃u,u=gW q.tQ W:=⟨_,rfl⟩
 have hg1:=gW_sm hs q.tQ
 rw [←hu1] at hg1
 obtain ⟨g1,hgg1⟩:∃g,g=u1+k:=⟨_,rfl⟩
 have wg1:=wfI (a:=g1) (by omega) (by omega)
 have e1:IntKind.i64.wrap (u1+k)=g1:=by rw [IntKind.wrap_i64];omega
 have hs1:SmW (b+1) ((q.tQ,g1)::W):=by rw [hgg1,hu1];exact hs.push ⟨t1,t2⟩ hk
 obtain ⟨u2,hu2⟩:∃u,u=gW q.el ((q.tQ,g1)::W):=⟨_,rfl⟩
 have hg2:=gW_sm hs1 q.el
 rw [←hu2] at hg2
 obtain ⟨g2,hgg2⟩:∃g,g=u2+k:=⟨_,rfl⟩
 have wg2:=wfI (a:=g2) (by omega) (by omega)
 have e2:IntKind.i64.wrap (u2+k)=g2:=by rw [IntKind.wrap_i64];omega
 have Hu1:=qd hu1
 have Hu2:=qd hu2
 have HV3:=qd (show q.kd=3→cntW q k W=(q.el,g2)::(q.tQ,g1)::W from fun h=>by unfold cntW;rw [if_pos h,hgg2,hu2,hgg1,hu1])
 have HV4:=qd (show q.kd=4→cntW q k W=(q.tQ,g1)::W from fun h=>by unfold cntW;rw [if_neg (by omega),if_pos h,hgg1,hu1])
 have HV0:=qd (show q.kd≠3→q.kd≠4→cntW q k W=W from fun h h'=>by unfold cntW;rw [if_neg h,if_neg h'])
 go_enter Tryz.func147,Tryz.ntmps147
 go_upto_region 1 with fail
 rw [←hX]
 clear hX hb1 hbx hm hs hu1 hg1 hs1 hu2 hg2 hgg1 hgg2
 generalize w.heap.size=xb at HBx HXM ⊢
 have y0:=HBx.out.cell 0 rfl
 have y1:=HBx.out.cell 1 rfl
 have y2:=HBx.out.cell 2 rfl
 have yl:=HBx.out.lt
 by_cases h3:q.kd=3
 ·have k3:((q.kd:Int)==3)=true:=by rw [h3];rfl
  have HV:=qd (HV3.out h3)
  clear h3 HV3 HV4 HV0
  go_wp2_with (first|(at_lookup;refine wpList_lookup_own_int _ rfl _ _ 265 rfl 74 3 .i64 nameKeyed Tryz.underlying265 Tryz.underlying3 (Tryz.zeroValue3 _) m _ _ rfl HM.out _ (.int .i64 q.tQ) rfl (keyOf_int_mk Tryz.underlying74 (wfI t1 t2)) ?_;intro c hat _;obtain rfl:c=u1:=(ways_of hat).trans Hu1.out.symm;clear hat)|(at_mapUpdate;refine wpList_mapUpdate_own _ rfl _ _ _ 265 rfl 74 3 nameKeyed Tryz.underlying265 (plainElem Tryz.prog 3) m _ _ rfl HM.out (by first|(unfold maxLen;omega)|(simp only [List.length_cons];unfold maxLen;omega)) _ _ (.int .i64 q.tQ) rfl rfl (keyOf_int_mk Tryz.underlying74 (wfI t1 t2)) (.lit (.int .i64 g1)) [] (plainElem_int Tryz.underlying3 wg1) ?_;intro w4 hm4 hg4;have HM:=qd (NMap.put hm4);have HG:=qd (only_trans HG.out hg4);have hbx:=HBx.out.grown hg4 (fun e=>by injection e with e;exact HXM.out e);have y0:=hbx.cell 0 rfl;have y1:=hbx.cell 1 rfl;have y2:=hbx.cell 2 rfl;have yl:=hbx.lt;have HBx:=qd hbx;clear hm4 hg4 hbx)|(at_lookup;refine wpList_lookup_own_int _ rfl _ _ 265 rfl 74 3 .i64 nameKeyed Tryz.underlying265 Tryz.underlying3 (Tryz.zeroValue3 _) m _ _ rfl HM.out _ (.int .i64 q.el) rfl (keyOf_int_mk Tryz.underlying74 (wfI l1 l2)) ?_;intro c hat _;obtain rfl:c=u2:=(ways_of hat).trans Hu2.out.symm;clear hat)|(at_mapUpdate;refine wpList_mapUpdate_own _ rfl _ _ _ 265 rfl 74 3 nameKeyed Tryz.underlying265 (plainElem Tryz.prog 3) m _ _ rfl HM.out (by first|(unfold maxLen;omega)|(simp only [List.length_cons];unfold maxLen;omega)) _ _ (.int .i64 q.el) rfl rfl (keyOf_int_mk Tryz.underlying74 (wfI l1 l2)) (.lit (.int .i64 g2)) [] (plainElem_int Tryz.underlying3 wg2) ?_;intro w4 hm4 hg4;have HM:=qd (NMap.put hm4);have HG:=qd (only_trans HG.out hg4);have hbx:=HBx.out.grown hg4 (fun e=>by injection e with e;exact HXM.out e);have y0:=hbx.cell 0 rfl;have y1:=hbx.cell 1 rfl;have y2:=hbx.cell 2 rfl;have yl:=hbx.lt;have HBx:=qd hbx;clear hm4 hg4 hbx))
  go_end0
  rw [HV.out]
  exact ⟨rfl,HM.out,HG.out⟩
 have k3:((q.kd:Int)==3)=false:=by rw [beq_eq_false_iff_ne];omega
 by_cases h4:q.kd=4
 ·have k4:((q.kd:Int)==4)=true:=by rw [h4];rfl
  have HV:=qd (HV4.out h4)
  clear h3 h4 HV3 HV4 HV0
  go_wp2_with (first|(at_lookup;refine wpList_lookup_own_int _ rfl _ _ 265 rfl 74 3 .i64 nameKeyed Tryz.underlying265 Tryz.underlying3 (Tryz.zeroValue3 _) m _ _ rfl HM.out _ (.int .i64 q.tQ) rfl (keyOf_int_mk Tryz.underlying74 (wfI t1 t2)) ?_;intro c hat _;obtain rfl:c=u1:=(ways_of hat).trans Hu1.out.symm;clear hat)|(at_mapUpdate;refine wpList_mapUpdate_own _ rfl _ _ _ 265 rfl 74 3 nameKeyed Tryz.underlying265 (plainElem Tryz.prog 3) m _ _ rfl HM.out (by first|(unfold maxLen;omega)|(simp only [List.length_cons];unfold maxLen;omega)) _ _ (.int .i64 q.tQ) rfl rfl (keyOf_int_mk Tryz.underlying74 (wfI t1 t2)) (.lit (.int .i64 g1)) [] (plainElem_int Tryz.underlying3 wg1) ?_;intro w4 hm4 hg4;have HM:=qd (NMap.put hm4);have HG:=qd (only_trans HG.out hg4);have hbx:=HBx.out.grown hg4 (fun e=>by injection e with e;exact HXM.out e);have y0:=hbx.cell 0 rfl;have y1:=hbx.cell 1 rfl;have y2:=hbx.cell 2 rfl;have yl:=hbx.lt;have HBx:=qd hbx;clear hm4 hg4 hbx))
  go_end0
  rw [HV.out]
  exact ⟨rfl,HM.out,HG.out⟩
 have k4:((q.kd:Int)==4)=false:=by rw [beq_eq_false_iff_ne];omega
 have HV:=qd (HV0.out h3 h4)
 clear h3 h4 HV3 HV4 HV0
 go_wp2_with fail
 go_end0
 rw [HV.out]
 exact ⟨rfl,HM.out,HG.out⟩
end Go.Proofs.YtcnebdjhhfnmoaaGreatDoor.Ju
namespace Go.Proofs.YtcnebdjhhfnmoaaGreatDoor
open Go.RowKit
section
variable {P:Program} {ops:Array Oper} {Q:Exit→Act→World→Prop} {L n:Nat}
theorem oper_round {o:Oper}(hd:∀c,o.op≠.defer c){a:Act}{w:World}{K K':Act→World→Prop}(hK:∀a w,K a w→K' a w)(h:o.wp P a w K Q):o.wpIn (Fence.wide.inRound L) n P a w K' Q:=by
 refine ⟨fun _ _=>trivial,?_⟩
 rw [show (Fence.wide.inRound L).round=some L from rfl,Oper.semAt_some L _ _ hd]
 unfold Oper.wp at h
 generalize (execOp a.eval o).run P w=r at h
 unfold Oper.upon at h
 unfold Oper.uponIn
 split at h
 ·exact hK _ _ h
 ·exact hK _ _ h
 ·exact hK _ _ h
 ·refine ⟨(fun hx=>by cases hx),CallsIn.inRound L (callsIn_wide.2 (h.mono ?_))⟩
  intro e w' he
  cases e with
  | returned v=>exact hK _ _ he
  | panicked c=>exact he
  | outgrown=>exact he
 ·exact ⟨(fun hx=>by cases hx),fun c cs _=>by
   obtain ⟨v,w',h1,h2⟩:=h c cs
   exact ⟨v,w',hK _ _ h1,stepsIn_wide.2 h2⟩⟩
 ·exact h
 ·exact h.elim
theorem ops_round (hd:∀(i:Nat)(o:Oper),ops[i]?=some o→∀c,o.op≠.defer c)(hQ:¬LetsOut Q):∀(l:List Nat) (a:Act) (w:World),wpOps P ops Q l a w→wpOpsIn (Fence.wide.inRound L) n P ops Q l a w
 | [],_,_,h=>h
 | i::rest,a,w,h=>by
  unfold wpOps at h
  unfold wpOpsIn
  cases ho:ops[i]? with
  | none=>rw [ho] at h;exact ops_round hd hQ rest a w h
  | some o=>
   rw [ho] at h
   dsimp only at h ⊢
   split
   ·rename_i hw
    rw [if_pos hw] at h
    rcases h with h|h
    ·exact oper_round (hd i o ho) (fun a w h=>ops_round hd hQ rest a w h) h
    ·exact absurd h.2 hQ
   ·rename_i hw
    rw [if_neg hw] at h
    exact ⟨fun _ _=>trivial,ops_round hd hQ rest _ w h⟩
def noDefer (l:List Oper):Bool:=l.all fun o=>match o.op with
 | .defer _=>false
 | _=>true
theorem noDefer_at {l:List Oper}(h:noDefer l=true)(i:Nat)(o:Oper)(ho:l.toArray[i]?=some o)(c:Call):o.op≠.defer c:=by
 intro e
 have hm:o∈l:=List.mem_of_getElem? (by simpa using ho)
 have:=List.all_eq_true.1 h o hm
 rw [e] at this
 cases this
theorem region_round {id:Nat}{a:Act}{w:World}{l:List Oper}(m:Nat)(hm:P.follows .mixedOrders=true)(hB:Region.lexTailB .any l.toArray m=true)(hd:noDefer l=true)(hQ:¬LetsOut Q)
  (h:wpStill P l.toArray w.drew (fun a'=>wpList P l.toArray Q (l.drop m) a' w.drew) (l.take m) a):(Code.region id l.toArray true).wpIn (Fence.wide.inRound L) n P Q a w:=by
 simp only [Region.lexTailB,Bool.and_eq_true,decide_eq_true_eq] at hB
 obtain ⟨⟨⟨⟨b1,b2⟩,b3⟩,b4⟩,b5⟩:=hB
 have hlt:m<l.length:=by simpa using b2
 have e1:(l.take m).length=m:=by simp;omega
 have e2:(l.drop m).length=l.toArray.size-m:=by simp
 have start:HeadInv .any l.toArray m (Array.replicate l.toArray.size false):=by
  refine ⟨by simp,?_,?_⟩
  ·intro j oj _ hj
   rw [getD_replicate_false] at hj
   cases hj
  ·intro t _ ht
   exact getD_in (by simpa using ht) (getD_replicate_false _ _)
 have H1:=wpAnyL_lex (md:=.any) (g:=l.toArray.size-m) b1 b3 b4 b2 (l.take m) 0 _ a (fun j hj=>by rw [e1] at hj;simp [hj]) (by simpa using e1) start (by rw [e1];exact b5) h
 have H2:=wpAny_of_head (Q':=Q) (g:=l.toArray.size-m) (fun listed a' hL=>by
  have:=wpAny_of_seq (md:=.any) (Q':=Q) (l.drop m) m listed a' w.drew (fun j=>by simp [List.getElem?_drop]) (by rw [e2];exact hL.1) hL.2
  rwa [e2] at this) _ _ _ H1
 rw [e1,Nat.add_sub_cancel' (by simp;omega)] at H2
 refine wpIn_region_draw fun t=>ops_round (noDefer_at hd) hQ _ _ _ ?_
 simp only [Region.schedule,hm,Bool.true_or,if_true]
 exact wpAny_sound l.toArray.size t _ a _ H2
end
end Go.Proofs.YtcnebdjhhfnmoaaGreatDoor
namespace Go.Proofs.YtcnebdjhhfnmoaaGreatDoor.Ju
open Go.RowKit
section
variable {P:Program} {Q:Exit→Act→World→Prop} {L n:Nat}
theorem region_round_any {id:Nat}{a:Act}{w:World}{l:List Oper}(hm:P.follows .mixedOrders=true)(hd:noDefer l=true)(hQ:¬LetsOut Q)
  (h:wpAny P .any l.toArray Q l.toArray.size (Array.replicate l.toArray.size false) a w.drew):(Code.region id l.toArray true).wpIn (Fence.wide.inRound L) n P Q a w:=by
 refine wpIn_region_draw fun t=>ops_round (noDefer_at hd) hQ _ _ _ ?_
 simp only [Region.schedule,hm,Bool.true_or,if_true]
 exact wpAny_sound l.toArray.size t _ a _ h
theorem region_round_held {S:World→Prop}{id:Nat}{a:Act}{w:World}{l:List Oper}(hm:P.follows .mixedOrders=true)(hd:noDefer l=true)(hQ:¬LetsOut Q)(hS:S w.drew)
  (h:S w.drew→wpAnyH P .any l.toArray Q S l.toArray.size (Array.replicate l.toArray.size false) a w.drew):(Code.region id l.toArray true).wpIn (Fence.wide.inRound L) n P Q a w:=
 region_round_any hm hd hQ (wpAny_of_held _ _ _ _ (h hS))
end
def OnlyR (fr:Act)(R:World→Prop):Exit→Act→World→Prop
 | .normal,a,w=>a=fr∧R w
 | _,_,_=>False
theorem OnlyR.here {fr:Act}{R:World→Prop}{w:World}(h:R w):OnlyR fr R .normal fr w:=⟨rfl,h⟩
theorem wp_onceIn {F:Fence}{n:Nat}{P:Program}{c:Code}{Q:Exit→Act→World→Prop}{a:Act}{w:World}(fr:Act)(R:World→Prop)(h:c.wpIn F n P (OnlyR fr R) a w)(hK:∀w',R w'→Q .normal fr w'):c.wpIn F n P Q a w:=
 Code.wpIn_mono (fun e a w h=>by
  cases e with
  | normal=>
   obtain ⟨h1,h2⟩:=h
   subst h1
   exact hK _ h2
  | _=>exact (h:False).elim) h
theorem onlyR_in (fr:Act)(R:World→Prop):¬LetsOut (OnlyR fr R):=by rintro ⟨_,_,h⟩;exact h
end Go.Proofs.YtcnebdjhhfnmoaaGreatDoor.Ju
