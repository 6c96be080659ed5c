/- Edges: calls at which a policy may turn: turns, Edges. -/
import Derived.Test.YtcnebdjhhfnmoaaGreatDoorL40
import Derived.Test.YtcnebdjhhfnmoaaGreatDoorL33
import Derived.Test.YtcnebdjhhfnmoaaGreatDoorL38
import Derived.Test.YtcnebdjhhfnmoaaGreatDoorL19
import Derived.Test.YtcnebdjhhfnmoaaGreatDoorL36
import Derived.Test.YtcnebdjhhfnmoaaGreatDoorL28
import Derived.Test.YtcnebdjhhfnmoaaGreatDoorL35
import Derived.Test.YtcnebdjhhfnmoaaGreatDoorL26
import Derived.Test.YtcnebdjhhfnmoaaGreatDoorL27
import Derived.Deep.RegionHeld3
import Derived.Test.YtcnebdjhhfnmoaaGreatDoorL01
set_option maxHeartbeats 32000000
set_option maxRecDepth 100000
namespace Go.Proofs.YtcnebdjhhfnmoaaGreatDoor.Co
open Go.RowKit Go.Maps Go.WideMaps Go.WideElems Go.ChangeMaps Go.Proofs.YtcnebdjhhfnmoaaGreatDoor.Ju Go.Proofs.YtcnebdjhhfnmoaaGreatDoor.Me
theorem own_none {w:World}{B m c n z:Nat}{e:TypeId}{xs:List Value}{A:Option Addr}(h:w.ownsRow B e z (.slice A m c) n xs):A=none→m=0∧c=0:=fun hA=>by
 subst hA
 rcases h.2 with ⟨h1,_⟩|⟨_,_,_,h1,_⟩
 ·simp at h1;exact h1
 ·simp at h1
structure RwR (w wr:World)(v:Value)(left:List RcM):Prop where
 bel:Below w.heap.size w wr
 row:wr.ownsRow w.heap.size 60 9 v left.length (left.flatMap RcM.cells)
theorem RwR.kept {w wr w':World}{v:Value}{s:List RcM}(h:RwR w wr v s)(hb:Below wr.heap.size wr w'):RwR w w' v s:=⟨h.bel.trans (hb.mono h.bel.size),own_keepN h.row hb⟩
theorem RwR.more {w wr w':World}{v v':Value}{s t:List RcM}(h:RwR w wr v s)(hr:w'.ownsRow w.heap.size 60 9 v' (s.length+t.length) (s.flatMap RcM.cells++t.flatMap RcM.cells))(hg:wr.grownBy w' v.ownBlock):RwR w w' v' (s++t):=
 ⟨h.bel.grown hg h.bel.size (fun r e=>(Ju.own_ge h.row r e).1),by simpa using hr⟩
theorem RwR.slice {w wr:World}{v:Value}{s:List RcM}(h:RwR w wr v s):∃A cp,v=.slice A s.length cp:=by obtain ⟨A,cp,e,_⟩:=own_typed h.row;exact ⟨A,cp,e⟩
theorem turns_any (r:RuleM)(n:Nat)(A:Option Addr)(cap:Nat)(w:World)(hr:r.ok)(hn:r.conds.length=n)(h100:n≤100)(hR:Rd w 4 n A (r.conds.flatMap CondM.cells)) :
  Calls Tryz.prog 44 #[.agg #[.int .u32 r.num,.int .u32 r.act,.slice A n cap]] w (RecOut (turnL r) w):=by
 obtain ⟨W1,hW1⟩:∃W,W=w.alloc (.cells #[.int .u32 r.num,.int .u32 r.act,.slice A n cap] 86):=⟨_,rfl⟩
 obtain ⟨W2,hW2⟩:∃W,W=W1.alloc (.cells #[.int .u32 r.num,.int .u32 3221225534,.int .u64 0,.int .u64 0,.int .u64 0,.int .u64 0,.int .u64 0,.int .u64 0,.int .u64 0] 60):=⟨_,rfl⟩
 have hs1:W1.heap.size=w.heap.size+1:=by rw [hW1];simp
 have hb1:Below w.heap.size w W2:=by rw [hW2];exact (show Below w.heap.size w W1 by rw [hW1];exact oneb w _).trans ((oneb W1 _).mono (by omega))
 have hbx:Bk W2 w.heap.size 86 [.int .u32 r.num,.int .u32 r.act,.slice A n cap]:=by rw [hW2];exact (show Bk W1 w.heap.size 86 [.int .u32 r.num,.int .u32 r.act,.slice A n cap] by rw [hW1];exact Bk.new w _ _ rfl).kept (oneb W1 _)
 have hby:Bk W2 (w.heap.size+1) 60 (zeroR r.num 3221225534).cells:=by rw [hW2,←hs1];exact Bk.new W1 _ _ rfl
 have HA:=qd (show RkR w W2 (.slice none 0 0) (w.heap.size+1) [] (zeroR r.num 3221225534) from ⟨hb1,World.ownsRow_nil _ _ _ _,hby,by omega,fun g e=>by cases e⟩)
 have HC:=qd hbx
 have HOk:=qd hr
 have HL:=qd hn
 have HR:=qd hR
 clear hr hn hR hb1 hbx hby
 go_enter Tryz.func44,Tryz.ntmps44
 go_upto_region 2 with fail
 rw [←hW1,←hW2]
 clear hW1 hW2 hs1
 obtain ⟨xa,hxa⟩:∃x,x=w.heap.size:=⟨_,rfl⟩
 obtain ⟨xb,hxb⟩:∃x,x=xa+1:=⟨_,rfl⟩
 rw [←hxa] at HA HC ⊢
 rw [←hxb] at HA ⊢
 have HXab:=qd (show xa≠xb by omega)
 clear hxa hxb
 have y2:=HC.out.cell 2 rfl
 have yl:=HC.out.lt
 go_wp2_with fail
 clear y2 yl
 go_loopw [15] (fun iv wz=>∃i:Nat,iv=.int .i64 i∧i≤n∧Hid (RkR w wz (.slice none 0 0) xb [] ((r.conds.take i).foldl baseS (zeroR r.num 3221225534)))∧Hid (Bk wz xa 86 [.int .u32 r.num,.int .u32 r.act,.slice A n cap])) (fun iv _=>n-(intOf iv).toNat)
 case atStart=>exact ⟨0,rfl,Nat.zero_le _,HA,HC⟩
 case round=>
  clear HA HC
  rename World=>wz
  obtain ⟨i,rfl,hi,HA,HC⟩:=hrel
  by_cases hlt:i<n
  ·obtain ⟨c,hx⟩:∃c,r.conds[i]?=some c:=⟨_,List.getElem?_eq_getElem (by have:=HL.out;omega)⟩
   obtain ⟨b,o,hA,hbl,hcell⟩:=(HR.out.below HA.out.bel).one (f:=CondM.cells) (fun _=>rfl) (by omega) (by omega)
   subst hA
   obtain ⟨c0,c1,c2,c3⟩:=cond_cells hcell hx
   have HT:=qd (show (r.conds.take (i+1)).foldl baseS (zeroR r.num 3221225534)=baseS ((r.conds.take i).foldl baseS (zeroR r.num 3221225534)) c by rw [List.take_add_one,hx,List.foldl_append];rfl)
   obtain ⟨x,hxe⟩:∃x,x=(r.conds.take i).foldl baseS (zeroR r.num 3221225534):=⟨_,rfl⟩
   rw [←hxe] at HA HT
   clear hcell hx hxe
   go_upto_region 5 with fail
   have hb2:=oneb wz (.cells #[.int .i64 c.arg,.int .u8 c.op,.int .u64 c.mask,.int .u64 c.val] 89)
   have hk:=Bk.new wz 89 #[.int .i64 c.arg,.int .u8 c.op,.int .u64 c.mask,.int .u64 c.val] (l:=[.int .i64 c.arg,.int .u8 c.op,.int .u64 c.mask,.int .u64 c.val]) rfl
   generalize World.alloc wz _=w4 at hb2 hk ⊢
   obtain ⟨xk,hxk⟩:∃x,x=wz.heap.size:=⟨_,rfl⟩
   rw [←hxk] at hk ⊢
   have HA4:=qd (HA.out.kept hb2)
   have HC4:=qd (HC.out.kept hb2)
   have HK:=qd hk
   clear c0 c1 c2 c3 hb2 hk hxk HA HC
   have r0:=HK.out.cell 0 rfl
   have r3:=HK.out.cell 3 rfl
   have rl:=HK.out.lt
   go_wp2_with fail
   refine (there_any c.arg _).mono ?_
   rintro e w5 ⟨rfl,rfl⟩
   obtain ⟨bb,hbb⟩:∃b,b=thereB c.arg:=⟨_,rfl⟩
   rw [←hbb]
   cases bb with
   | false=>
    have HT:=qd (show (r.conds.take (i+1)).foldl baseS (zeroR r.num 3221225534)=x by rw [HT.out];unfold baseS;rw [←hbb];rfl)
    clear hbb r0 r3 rl
    go_wp2_with fail
    go_roundw
    case rel=>exact ⟨i+1,by go_num,by omega,by rw [HT.out];exact HA4,HC4⟩
    case measure=>simp [intOf];omega
   | true=>
    have ht:0≤c.arg∧c.arg≤5:=of_decide_eq_true hbb.symm
    obtain ⟨k,hk⟩:∃k:Nat,c.arg=k:=⟨c.arg.toNat,by omega⟩
    have hk6:k<6:=by omega
    have HT:=qd (show (r.conds.take (i+1)).foldl baseS (zeroR r.num 3221225534)=setA x k c.val by rw [HT.out];unfold baseS;rw [←hbb,if_pos rfl,hk];rfl)
    have hn:=HA4.out.set (n:=c.val) hk6
    have hc:=HC4.out.grown (only_set w4 xb (3+k) (.int .u64 ((c.val:Nat):Int))) (fun e=>HXab.out (Option.some.inj e))
    have HA5:=qd hn
    have HC5:=qd hc
    rw [hk] at r0
    have hki:(k:Int)<6:=by omega
    have fx:=HA4.out.box.cell (3+k) (RcM.arg_cell x hk6)
    have fz:=HA4.out.box.fz (3+k)
    have fl:=HA4.out.box.lt
    clear hbb ht hk hn hc
    go_wp2_with fail
    go_roundw
    case rel=>exact ⟨i+1,by go_num,by omega,by rw [HT.out];exact HA5,HC5⟩
    case measure=>simp [intOf];omega
  ·have HZ:=qd (show (r.conds.take i).foldl baseS (zeroR r.num 3221225534)=baseR r by rw [List.take_of_length_le (by have:=HL.out;omega)];rfl)
   rw [HZ.out] at HA
   obtain ⟨z,hz⟩:∃z,z=baseR r:=⟨_,rfl⟩
   rw [←hz] at HA
   have HZ:=qd hz
   clear hz
   have f0:=HA.out.box.cell 0 rfl
   have f1:=HA.out.box.cell 1 rfl
   have f2:=HA.out.box.cell 2 rfl
   have f3:=HA.out.box.cell 3 rfl
   have f4:=HA.out.box.cell 4 rfl
   have f5:=HA.out.box.cell 5 rfl
   have f6:=HA.out.box.cell 6 rfl
   have f7:=HA.out.box.cell 7 rfl
   have f8:=HA.out.box.cell 8 rfl
   have fl:=HA.out.box.lt
   go_upto_region 9 with fail
   have hrow:=World.ownsRow_lit (e:=60) (size:=9) (base:=w.heap.size) wz #[.int .u32 z.num,.int .u32 z.arch,.int .u64 z.at_,.int .u64 z.a0,.int .u64 z.a1,.int .u64 z.a2,.int .u64 z.a3,.int .u64 z.a4,.int .u64 z.a5] 1 HA.out.bel.size (by unfold maxLen;omega) rfl
   have HB:=qd (show RkR w (wz.alloc (.cells #[.int .u32 z.num,.int .u32 z.arch,.int .u64 z.at_,.int .u64 z.a0,.int .u64 z.a1,.int .u64 z.a2,.int .u64 z.a3,.int .u64 z.a4,.int .u64 z.a5] 60)) (.slice (some ⟨wz.heap.size,0,none⟩) 1 1) xb [z] z from ⟨HA.out.bel.trans ((oneb wz _).mono HA.out.bel.size),by rw [show [z].flatMap RcM.cells=z.cells from by simp];exact hrow,HA.out.box.kept (oneb wz _),HA.out.ge,fun g e=>by have:=Option.some.inj e;simp at this;omega⟩)
   have HC9:=qd (HC.out.kept (oneb wz (.cells #[.int .u32 z.num,.int .u32 z.arch,.int .u64 z.at_,.int .u64 z.a0,.int .u64 z.a1,.int .u64 z.a2,.int .u64 z.a3,.int .u64 z.a4,.int .u64 z.a5] 60)))
   generalize World.alloc wz _=w9 at HB HC9 ⊢
   generalize wz.heap.size=xg at HB ⊢
   clear hrow HA HC f0 f1 f2 f3 f4 f5 f6 f7 f8 fl hi hlt
   have y2:=HC9.out.cell 2 rfl
   have yl:=HC9.out.lt
   go_wp2_with fail
   clear y2 yl
   go_loopw [6,34] (fun sv iv wy=>∃(j:Nat) (s:List RcM) (B:Option Addr) (c9:Nat),iv=.int .i64 j∧sv=.slice B s.length c9∧j≤n∧s.length≤1+5*j∧Hid (RkR w wy (.slice B s.length c9) xb s z)∧Hid (s=z::(r.conds.take j).flatMap (turnC z))) (fun _ iv _=>n-(intOf iv).toNat)
   case atStart=>exact ⟨0,[z],some ⟨xg,0,none⟩,1,rfl,rfl,Nat.zero_le _,by simp,HB,qd rfl⟩
   case round=>
    clear HB HC9
    rename World=>wy
    obtain ⟨j,s,B,c9,rfl,rfl,hj,hsl,HA,HS⟩:=hrel
    by_cases hlt:j<n
    ·obtain ⟨c,hx⟩:∃c,r.conds[j]?=some c:=⟨_,List.getElem?_eq_getElem (by have:=HL.out;omega)⟩
     obtain ⟨b,o,hA,hbl,hcell⟩:=(HR.out.below HA.out.bel).one (f:=CondM.cells) (fun _=>rfl) (by omega) (by omega)
     subst hA
     obtain ⟨c0,c1,c2,c3⟩:=cond_cells hcell hx
     have HT:=qd (show z::(r.conds.take (j+1)).flatMap (turnC z)=s++turnC z c by rw [List.take_add_one,hx,List.flatMap_append,HS.out];simp)
     have HCo:=qd (HOk.out.2.2.2 c (List.mem_of_getElem? hx))
     clear hcell hx
     go_upto_region 12 with fail
     have hb2:=oneb wy (.cells #[.int .i64 c.arg,.int .u8 c.op,.int .u64 c.mask,.int .u64 c.val] 89)
     have hk:=Bk.new wy 89 #[.int .i64 c.arg,.int .u8 c.op,.int .u64 c.mask,.int .u64 c.val] (l:=[.int .i64 c.arg,.int .u8 c.op,.int .u64 c.mask,.int .u64 c.val]) rfl
     generalize World.alloc wy _=w4 at hb2 hk ⊢
     obtain ⟨xk,hxk⟩:∃x,x=wy.heap.size:=⟨_,rfl⟩
     rw [←hxk] at hk ⊢
     have HA4:=qd (HA.out.kept hb2)
     have HK:=qd hk
     clear c0 c1 c2 c3 hb2 hk hxk HA
     have r0:=HK.out.cell 0 rfl
     have rl:=HK.out.lt
     go_wp2_with fail
     refine (there_any c.arg _).mono ?_
     rintro e w5 ⟨rfl,rfl⟩
     obtain ⟨bb,hbb⟩:∃b,b=thereB c.arg:=⟨_,rfl⟩
     rw [←hbb]
     cases bb with
     | false=>
      have HT:=qd (show s=z::(r.conds.take (j+1)).flatMap (turnC z) by rw [HT.out];unfold turnC;rw [←hbb];simp)
      clear hbb r0 rl
      go_wp2_with fail
      go_roundw
      case rel=>exact ⟨j+1,s,B,c9,by go_num,rfl,by omega,by omega,HA4,HT⟩
      case measure=>simp [intOf];omega
     | true=>
      have ht:0≤c.arg∧c.arg≤5:=of_decide_eq_true hbb.symm
      obtain ⟨k,hk⟩:∃k:Nat,c.arg=k:=⟨c.arg.toNat,by omega⟩
      have hk6:k<6:=by omega
      have HT:=qd (show s++besL c z=z::(r.conds.take (j+1)).flatMap (turnC z) by rw [HT.out];unfold turnC;rw [←hbb,if_pos rfl])
      have hbs:=qd (fun W=>beside_any c z k W HCo.out hk hk6)
      clear hbb ht hk hk6
      have r1:=HK.out.cell 1 rfl
      have r2:=HK.out.cell 2 rfl
      have r3:=HK.out.cell 3 rfl
      have f0:=HA4.out.box.cell 0 rfl
      have f1:=HA4.out.box.cell 1 rfl
      have f2:=HA4.out.box.cell 2 rfl
      have f3:=HA4.out.box.cell 3 rfl
      have f4:=HA4.out.box.cell 4 rfl
      have f5:=HA4.out.box.cell 5 rfl
      have f6:=HA4.out.box.cell 6 rfl
      have f7:=HA4.out.box.cell 7 rfl
      have f8:=HA4.out.box.cell 8 rfl
      have fl:=HA4.out.box.lt
      go_wp2_with fail
      refine (hbs.out _).mono ?_
      clear r0 r1 r2 r3 rl f0 f1 f2 f3 f4 f5 f6 f7 f8 fl hbs
      rintro e w7 ⟨A5,c5,rfl,hrow5,hb7⟩
      have HA5:=qd (HA4.out.kept hb7)
      have HR5:=qd hrow5
      obtain ⟨m5,hm5⟩:∃m,m=(besL c z).length:=⟨_,rfl⟩
      rw [←hm5] at HR5 ⊢
      have HM5:=qd hm5
      have HM5b:=qd (show m5≤5 by rw [hm5];exact Nat.le_refl _)
      clear hrow5 hb7 hm5 HA4
      go_wp2_with (at_builtin;refine append_list rfl (.tmp 41) (.tmp 44) 36 60 rfl _ 9 64 infoRec Tryz.underlying36 rfl (by decide) (by decide) w.heap.size _ s.length (s.flatMap RcM.cells) rfl HA5.out.row A5 m5 c5 ((besL c z).flatMap RcM.cells) rfl (own_none HR5.out) (own_rd HR5.out) (recs_one _) (by have:=HM5b.out;omega) HA5.out.bel.size ?_;intro v' w6 hown hgrow hv6;have HA6:=qd (HA5.out.more (t:=(besL c z)) (by have:=hown;rw [HM5.out] at this;exact this) hgrow hv6);clear hown hgrow hv6;obtain ⟨A7,c7,hv7⟩:=HA6.out.slice;obtain ⟨n7,hn7⟩:∃n7,n7=(s++(besL c z)).length:=⟨_,rfl⟩;rw [←hn7] at hv7;subst hv7;have HN7:=qd hn7;clear hn7)
      rw [HN7.out] at HA6
      go_roundw
      case rel=>exact ⟨j+1,s++besL c z,A7,c7,by go_num,by rw [HN7.out],by omega,by rw [List.length_append,←HM5.out];have:=HM5b.out;omega,HA6,HT⟩
      case measure=>simp [intOf];omega
    ·go_wp2_with fail
     go_ret
     have hE:s=turnL r:=by rw [HS.out,List.take_of_length_le (by have:=HL.out;omega),HZ.out];rfl
     rw [←hE]
     exact ⟨_,_,rfl,HA.out.row,HA.out.bel⟩
theorem edges_any (nm:ByteArray)(d:Nat)(rules:List RuleV)(RA:Option Addr)(nR Rc hd:Nat)(PA:Option Addr)(nP Pc:Nat)(QA:Option Addr)(nQ Qc:Nat)(w:World)(hn:rules.length=nR)(h80:nR≤80)(hR:RRd w rules RA)(hc:∀r∈rules,r.m.conds.length≤20) :
  Calls Tryz.prog 18 #[.agg #[.string nm,.int .u32 d,.slice RA nR Rc,.int .u16 hd,.slice PA nP Pc,.slice QA nQ Qc]] w (RecOut (edgeL (rules.map RuleV.m)) w):=by
 obtain ⟨W1,hW1⟩:∃W,W=w.alloc (.cells #[.string nm,.int .u32 d,.slice RA nR Rc,.int .u16 hd,.slice PA nP Pc,.slice QA nQ Qc] 30):=⟨_,rfl⟩
 have hb0:Below w.heap.size w W1:=by rw [hW1];exact oneb w _
 have hbx:Bk W1 w.heap.size 30 [.string nm,.int .u32 d,.slice RA nR Rc,.int .u16 hd,.slice PA nP Pc,.slice QA nQ Qc]:=by rw [hW1];exact Bk.new w _ _ rfl
 obtain ⟨W2,hW2⟩:∃W,W=W1.alloc (.cells #[.int .u32 0,.int .u32 3221225534,.int .u64 0,.int .u64 0,.int .u64 0,.int .u64 0,.int .u64 0,.int .u64 0,.int .u64 0,.int .u32 0,.int .u32 3221225535,.int .u64 0,.int .u64 0,.int .u64 0,.int .u64 0,.int .u64 0,.int .u64 0,.int .u64 0] 60):=⟨_,rfl⟩
 have hs1:W1.heap.size=w.heap.size+1:=by rw [hW1];simp
 have hrow:W2.ownsRow w.heap.size 60 9 (.slice (some ⟨w.heap.size+1,0,none⟩) 2 2) 2 [.int .u32 0,.int .u32 3221225534,.int .u64 0,.int .u64 0,.int .u64 0,.int .u64 0,.int .u64 0,.int .u64 0,.int .u64 0,.int .u32 0,.int .u32 3221225535,.int .u64 0,.int .u64 0,.int .u64 0,.int .u64 0,.int .u64 0,.int .u64 0,.int .u64 0]:=by
  rw [hW2,←hs1]
  exact World.ownsRow_lit (e:=60) (size:=9) (base:=w.heap.size) W1 #[.int .u32 0,.int .u32 3221225534,.int .u64 0,.int .u64 0,.int .u64 0,.int .u64 0,.int .u64 0,.int .u64 0,.int .u64 0,.int .u32 0,.int .u32 3221225535,.int .u64 0,.int .u64 0,.int .u64 0,.int .u64 0,.int .u64 0,.int .u64 0,.int .u64 0] 2 hb0.size (by unfold maxLen;omega) rfl
 have HA:=qd (show RwR w W2 (.slice (some ⟨w.heap.size+1,0,none⟩) 2 2) [zeroR 0 3221225534,zeroR 0 3221225535] from ⟨by rw [hW2];exact hb0.trans ((oneb W1 _).mono hb0.size),hrow⟩)
 have HC:=qd (show Bk W2 w.heap.size 30 [.string nm,.int .u32 d,.slice RA nR Rc,.int .u16 hd,.slice PA nP Pc,.slice QA nQ Qc] by rw [hW2];exact hbx.kept (oneb W1 _))
 have HL:=qd hn
 have HR:=qd hR
 have HQ:=qd hc
 clear hb0 hbx hrow hn hR hc
 go_enter Tryz.func18,Tryz.ntmps18
 go_upto_region 2 with fail
 rw [←hW1,←hW2]
 clear hW1 hW2 hs1
 obtain ⟨xa,hxa⟩:∃x,x=w.heap.size:=⟨_,rfl⟩
 rw [←hxa] at HC ⊢
 have HA:=qd (show RwR w W2 (.slice (some ⟨xa+1,0,none⟩) 2 2) [zeroR 0 3221225534,zeroR 0 3221225535] by rw [hxa];exact HA.out)
 clear hxa
 have y2:=HC.out.cell 2 rfl
 have yl:=HC.out.lt
 go_wp2_with fail
 clear y2 yl
 go_loopw [3,12] (fun sv iv wz=>∃(i:Nat) (s:List RcM) (B:Option Addr) (c9:Nat),iv=.int .i64 i∧sv=.slice B s.length c9∧i≤nR∧s.length≤2+101*i∧Hid (RwR w wz (.slice B s.length c9) s)∧Hid (s=zeroR 0 3221225534::zeroR 0 3221225535::((rules.take i).map RuleV.m).flatMap turnL)) (fun _ iv _=>nR-(intOf iv).toNat)
 case atStart=>exact ⟨0,[zeroR 0 3221225534,zeroR 0 3221225535],some ⟨xa+1,0,none⟩,2,rfl,rfl,Nat.zero_le _,by simp,HA,qd rfl⟩
 case round=>
  clear HA HC
  rename World=>wz
  obtain ⟨i,s,B,c9,rfl,rfl,hi,hsl,HA,HS⟩:=hrel
  by_cases hlt:i<nR
  ·obtain ⟨r,hx⟩:∃r,rules[i]?=some r:=⟨_,List.getElem?_eq_getElem (by have:=HL.out;omega)⟩
   have hmem:=List.mem_of_getElem? hx
   have hrr:=(HR.out.below HA.out.bel).r
   rw [HL.out] at hrr
   obtain ⟨b,o,hA,hbl,hcell⟩:=hrr.one (f:=RuleV.cells) (fun _=>rfl) (by omega) (by omega)
   subst hA
   obtain ⟨c0,c1,c2⟩:=rule_cells hcell hx
   have HT:=qd (show zeroR 0 3221225534::zeroR 0 3221225535::((rules.take (i+1)).map RuleV.m).flatMap turnL=s++turnL r.m by rw [List.take_add_one,hx,List.map_append,List.flatMap_append,HS.out];simp)
   have h20:=HQ.out r hmem
   have HTu:=qd (fun W (h:Below wz.heap.size wz W)=>turns_any r.m r.m.conds.length r.A r.cap W (HR.out.ok r hmem) rfl (by omega) (((HR.out.below HA.out.bel).c r hmem).below h))
   have htl:=turn_len r.m
   obtain ⟨nc,hnc⟩:∃n,n=r.m.conds.length:=⟨_,rfl⟩
   rw [←hnc] at c2 HTu htl h20
   clear hcell hx hmem hrr hnc
   go_upto_region 5 with fail
   have hb2:=oneb wz (.cells #[.int .u32 r.m.num,.int .u32 r.m.act,.slice r.A nc r.cap] 86)
   have hk:=Bk.new wz 86 #[.int .u32 r.m.num,.int .u32 r.m.act,.slice r.A nc r.cap] (l:=[.int .u32 r.m.num,.int .u32 r.m.act,.slice r.A nc r.cap]) rfl
   generalize World.alloc wz _=w4 at hb2 hk ⊢
   obtain ⟨xk,hxk⟩:∃x,x=wz.heap.size:=⟨_,rfl⟩
   rw [←hxk] at hk ⊢
   have HA4:=qd (HA.out.kept hb2)
   have HTu:=qd (HTu.out _ hb2)
   have r0:=hk.cell 0 rfl
   have r1:=hk.cell 1 rfl
   have r2:=hk.cell 2 rfl
   have rl:=hk.lt
   clear c0 c1 c2 hb2 hk hxk HA
   go_wp2_with fail
   refine HTu.out.mono ?_
   clear r0 r1 r2 rl HTu
   rintro e w7 ⟨A5,c5,rfl,hrow5,hb7⟩
   have HA5:=qd (HA4.out.kept hb7)
   have HR5:=qd hrow5
   obtain ⟨m5,hm5⟩:∃m,m=(turnL r.m).length:=⟨_,rfl⟩
   rw [←hm5] at HR5 htl ⊢
   have HM5:=qd hm5
   have HM5b:=qd (show m5≤101 by omega)
   clear hrow5 hb7 hm5 HA4
   go_wp2_with (at_builtin;refine append_list rfl (.tmp 16) (.tmp 18) 36 60 rfl _ 9 64 infoRec Tryz.underlying36 rfl (by decide) (by decide) w.heap.size _ s.length (s.flatMap RcM.cells) rfl HA5.out.row A5 m5 c5 ((turnL r.m).flatMap RcM.cells) rfl (own_none HR5.out) (own_rd HR5.out) (recs_one _) (by have:=HM5b.out;omega) HA5.out.bel.size ?_;intro v' w6 hown hgrow hv6;have HA6:=qd (HA5.out.more (t:=(turnL r.m)) (by have:=hown;rw [HM5.out] at this;exact this) hgrow);clear hown hgrow hv6;obtain ⟨A7,c7,hv7⟩:=HA6.out.slice;obtain ⟨n7,hn7⟩:∃n7,n7=(s++(turnL r.m)).length:=⟨_,rfl⟩;rw [←hn7] at hv7;subst hv7;have HN7:=qd hn7;clear hn7)
   rw [HN7.out] at HA6
   go_roundw
   case rel=>exact ⟨i+1,s++turnL r.m,A7,c7,by go_num,by rw [HN7.out],by omega,by rw [List.length_append,←HM5.out];have:=HM5b.out;omega,HA6,qd HT.out.symm⟩
   case measure=>simp [intOf];omega
  ·go_wp2_with fail
   go_ret
   have hE:s=edgeL (rules.map RuleV.m):=by rw [HS.out,List.take_of_length_le (by have:=HL.out;omega)];rfl
   rw [←hE]
   exact ⟨_,_,rfl,HA.out.row,HA.out.bel⟩
end Go.Proofs.YtcnebdjhhfnmoaaGreatDoor.Co
namespace Go.Proofs.YtcnebdjhhfnmoaaGreatDoor.Co
open Go.RowKit Go.Maps Go.WideMaps Go.WideElems Go.ChangeMaps Go.Proofs.YtcnebdjhhfnmoaaGreatDoor.Ju Go.Proofs.YtcnebdjhhfnmoaaGreatDoor.Me Go.Proofs.YtcnebdjhhfnmoaaGreatDoor.Ir Go.Proofs.YtcnebdjhhfnmoaaGreatDoor.Lo
def W9 (w:World)(b:Nat)(x:RcM):World:=(((((((((w.setCell ⟨b,0,none⟩ (.int .u32 x.num)).setCell ⟨b,1,none⟩ (.int .u32 x.arch)).setCell ⟨b,2,none⟩ (.int .u64 x.at_)).setCell ⟨b,3,none⟩ (.int .u64 x.a0)).setCell ⟨b,4,none⟩ (.int .u64 x.a1)).setCell ⟨b,5,none⟩ (.int .u64 x.a2)).setCell ⟨b,6,none⟩ (.int .u64 x.a3)).setCell ⟨b,7,none⟩ (.int .u64 x.a4)).setCell ⟨b,8,none⟩ (.int .u64 x.a5))
theorem put_rec {w:World}{b T:Nat}{p:RcM}(h:Bk w b T p.cells)(x:RcM):Bk (W9 w b x) b T x.cells∧w.grownBy (W9 w b x) (some b):=by
 constructor
 ·exact (((((((((h.set 0 (.int .u32 x.num)).set 1 (.int .u32 x.arch)).set 2 (.int .u64 x.at_)).set 3 (.int .u64 x.a0)).set 4 (.int .u64 x.a1)).set 5 (.int .u64 x.a2)).set 6 (.int .u64 x.a3)).set 7 (.int .u64 x.a4)).set 8 (.int .u64 x.a5))
 ·exact (only_trans (only_set _ b _ _) (only_trans (only_set _ b _ _) (only_trans (only_set _ b _ _) (only_trans (only_set _ b _ _) (only_trans (only_set _ b _ _) (only_trans (only_set _ b _ _) (only_trans (only_set _ b _ _) (only_trans (only_set _ b _ _) (only_set _ b _ _)))))))))
theorem PlanR.grownT {w w':World}{A:Option Addr}{cs:List CaV}{q:Nat}(h:PlanR w A cs)(hg:w.grownBy w' (some q))(hq:TyB w q 139):PlanR w' A cs:=
 ⟨h.row.grown hg (h.row.off hq (by decide)),fun c hc=>(h.brs c hc).grown hg ((h.brs c hc).off hq (by decide)),fun c hc b hb=>TRd.grown (h.con c hc b hb) hg (TRd.off (h.con c hc b hb) hq (by decide))⟩
def diffF (g s:RcM→Nat)(rs:List RcM):RcM×Bool:=match rs.find? (fun x=>g x != s x) with
 | none=>(zeroR 0 0,false)
 | some x=>(x,true)
theorem smK {n:Nat}(h:n≤100000000000):Small40 n:=by unfold Small40;omega
theorem plan_smallC {rules:List RuleV}{l':List RuleM}{cs:List CaV}(hS:Sorted (rules.map RuleV.m) l')(hcs:cs.map CaV.m=ofF l')(hr:rules.length≤100000)(hk:∀r∈rules,r.m.conds.length≤100000)(hok:∀r∈rules,r.m.ok):∀c∈cs,c.brs.length≤100000∧∀b∈c.brs,b.m.conds.length≤100000∧∀q∈b.m.conds,q.ok:=fun c hc=>by
 have hm:c.m∈ofF l':=by rw [←hcs];exact List.mem_map.2 ⟨c,hc,rfl⟩
 obtain ⟨g1,g2⟩:=plan_sub hS c.m hm
 have g3:c.m.brs.length=c.brs.length:=by show (c.brs.map BrV.m).length=_;rw [List.length_map]
 rw [List.length_map] at g1
 refine ⟨by omega,fun b hb=>?_⟩
 obtain ⟨r,hrm,_,_,h4,h5⟩:=g2 b.m (List.mem_map.2 ⟨b,hb,rfl⟩)
 obtain ⟨rv,hrv,rfl⟩:=List.mem_map.1 hrm
 have h1:=hk rv hrv
 exact ⟨by omega,fun q hq=>(hok rv hrv).2.2.2 q (h5 q hq)⟩
theorem nine_recC {w:World}{b o k:Nat}{l:List RcM}{x:RcM}(hc:∀k x,l[k]?=some x→∀j v,(RcM.cells x)[j]?=some v→w.cell? ⟨b,o+(k*9+j),none⟩=some v)(h:l[k]?=some x) :
  w.cell? ⟨b,o+k*9,none⟩=some (.int .u32 x.num)∧w.cell? ⟨b,o+k*9+1,none⟩=some (.int .u32 x.arch)∧w.cell? ⟨b,o+k*9+2,none⟩=some (.int .u64 x.at_)∧w.cell? ⟨b,o+k*9+3,none⟩=some (.int .u64 x.a0)∧w.cell? ⟨b,o+k*9+4,none⟩=some (.int .u64 x.a1)∧w.cell? ⟨b,o+k*9+5,none⟩=some (.int .u64 x.a2)∧w.cell? ⟨b,o+k*9+6,none⟩=some (.int .u64 x.a3)∧w.cell? ⟨b,o+k*9+7,none⟩=some (.int .u64 x.a4)∧w.cell? ⟨b,o+k*9+8,none⟩=some (.int .u64 x.a5):=by
 have hj:=fun j v hv=>hc k x h j v hv
 simp only [←Nat.add_assoc] at hj
 exact ⟨by have:=hj 0 _ rfl;simpa using this,hj 1 _ rfl,hj 2 _ rfl,hj 3 _ rfl,hj 4 _ rfl,hj 5 _ rfl,hj 6 _ rfl,hj 7 _ rfl,hj 8 _ rfl⟩
def DiffPost (g s:RcM→Nat)(rs:List RcM)(BB q b o c rn st n:Nat)(ins:List Ins)(w:World)(e:Ending)(w':World):Prop:=
 e=.returned (.tuple #[.agg (diffF g s rs).1.cells.toArray,.bool (diffF g s rs).2])∧(∃rn' st',rn'≤rn+n∧st'≤st+4096*n∧Fil w' BB q b o c ins rn' st')∧w.grownBy w' (some q)
theorem difference_any (nm:ByteArray)(d:Nat)(rules:List RuleV)(RA:Option Addr)(nR Rc hd:Nat)(PA:Option Addr)(nP Pc:Nat)(QA:Option Addr)(nQ Qc BB q b o c rn st:Nat)(ins:List Ins)(g:RcM→Nat)(rs:List RcM)(n:Nat)(A:Option Addr)(cap:Nat)(w:World)
  (hn:rules.length=nR) (h80:nR≤80) (hR:RRd w rules RA) (hc:∀r∈rules,r.m.conds.length≤20) (hF:Fil w BB q b o c ins rn st) (hG:Good ins) (hI:∀i∈ins,i.ok) (hil:ins.length≤4096) (hsay:∀x:RcM,x.ok→∀bs,Sees (recW bs) x→(runN (recW bs) ins).2=g x)
  (hr:rs.length=n) (hn2:n≤20000) (hrn:rn≤100000) (hst:st≤1000000000) (hrow:TRd w 60 9 n A (rs.flatMap RcM.cells)) (hok:∀x∈rs,x.ok) :
  Calls Tryz.prog 21 #[.agg #[.string nm,.int .u32 d,.slice RA nR Rc,.int .u16 hd,.slice PA nP Pc,.slice QA nQ Qc],.pointer (some ⟨q,0,none⟩),.slice A n cap] w (DiffPost g (fun x=>saysR d (rules.map RuleV.m) x) rs BB q b o c rn st n ins w):=by
 obtain ⟨W1,hW1⟩:∃W,W=w.alloc (.cells #[.string nm,.int .u32 d,.slice RA nR Rc,.int .u16 hd,.slice PA nP Pc,.slice QA nQ Qc] 30):=⟨_,rfl⟩
 obtain ⟨W2,hW2⟩:∃W,W=W1.alloc (.cells #[.int .u32 0,.int .u32 0,.int .u64 0,.int .u64 0,.int .u64 0,.int .u64 0,.int .u64 0,.int .u64 0,.int .u64 0] 60):=⟨_,rfl⟩
 have hs1:W1.heap.size=w.heap.size+1:=by rw [hW1];simp
 have hb1:Below w.heap.size w W2:=by rw [hW2];exact (show Below w.heap.size w W1 by rw [hW1];exact oneb w _).trans ((oneb W1 _).mono (by omega))
 have hbx:Bk W2 w.heap.size 30 [.string nm,.int .u32 d,.slice RA nR Rc,.int .u16 hd,.slice PA nP Pc,.slice QA nQ Qc]:=by rw [hW2];exact (show Bk W1 w.heap.size 30 [.string nm,.int .u32 d,.slice RA nR Rc,.int .u16 hd,.slice PA nP Pc,.slice QA nQ Qc] by rw [hW1];exact Bk.new w _ _ rfl).kept (oneb W1 _)
 have hby:Bk W2 (w.heap.size+1) 60 (zeroR 0 0).cells:=by rw [hW2,←hs1];exact Bk.new W1 _ _ rfl
 have hqw:q<w.heap.size:=Nat.lt_of_lt_of_le hF.lp hF.le
 have HQw:=qd hqw
 have HQb:=qd (show b<w.heap.size from Nat.lt_of_lt_of_le hF.lb hF.le)
 have HB2:=qd hb1
 have HX:=qd hbx
 have HY:=qd hby
 have HF:=qd (hF.below (hb1.mono hF.le))
 have HRw:=qd (hrow.below hb1)
 have HRR:=qd (hR.below hb1)
 have HL:=qd hr
 have HO:=qd hok
 have HG:=qd hG
 have HI:=qd hI
 have HSay:=qd hsay
 have HN:=qd hn
 have HC:=qd hc
 clear hn hR hc hF hG hI hsay hr hrow hok hb1 hbx hby hqw
 go_enter Tryz.func21,Tryz.ntmps21
 go_upto_region 1 with fail
 rw [←hW1,←hW2]
 clear hW1 hW2 hs1
 obtain ⟨xa,hxa⟩:∃x,x=w.heap.size:=⟨_,rfl⟩
 obtain ⟨xb,hxb⟩:∃x,x=xa+1:=⟨_,rfl⟩
 rw [←hxa] at HX HY ⊢
 rw [←hxb] at HY ⊢
 have HXab:=qd (show xa≠xb∧q≠xa∧q≠xb∧w.heap.size≤xb by have:=HQw.out;omega)
 clear hxa hxb
 have x0:=HX.out.cell 0 rfl
 have x1:=HX.out.cell 1 rfl
 have x2:=HX.out.cell 2 rfl
 have x3:=HX.out.cell 3 rfl
 have x4:=HX.out.cell 4 rfl
 have x5:=HX.out.cell 5 rfl
 have xl:=HX.out.lt
 have hof:=qd (of_anyC nm d rules RA nR Rc hd PA nP Pc QA nQ Qc W2 HN.out (by omega) HRR.out (fun r hr=>by have:=HC.out r hr;omega))
 go_wp2_with fail
 refine hof.out.mono ?_
 clear hof x0 x1 x2 x3 x4 x5 xl
 rintro e w3 ⟨hb3,l',hS,CA,Cc,cs,hcs,rfl,hP,hcap⟩
 have HB3:=qd (HB2.out.trans (hb3.mono HB2.out.size))
 have HY3:=qd (HY.out.kept hb3)
 have HF3:=qd (HF.out.below (hb3.mono HF.out.le))
 have HRw3:=qd (HRw.out.below hb3)
 have HP:=qd hP
 have hcl:cs.length≤80:=by
  have h1:=Go.Proofs.YtcnebdjhhfnmoaaGreatDoor.Ir.plan_len hS
  rw [←hcs,List.length_map,List.length_map] at h1
  have:=HN.out;omega
 have hsm:=plan_smallC hS hcs (by have:=HN.out;omega) (fun r hr=>by have:=HC.out r hr;omega) HRR.out.ok
 have HDe:=qd (fun (x:RcM) (hx:x.ok) W (h:PlanR W CA cs)=>decide_any cs cs.length CA Cc d x W rfl (by omega) (asc_of hS hcs) h hsm hx)
 have HEq:=qd (fun (x:RcM) (hx:x.ok) (r1:Nat) (h1:DecR d cs x r1)=>dec_says hS hcs hx h1)
 obtain ⟨nC,hnC⟩:∃n,n=cs.length:=⟨_,rfl⟩
 rw [←hnC] at HDe ⊢
 clear hb3 hS hcs hP hcap hcl hsm hnC HB2 HX HY HF HRw HRR
 go_upto_region 2 with fail
 have hk8:=Bk.new w3 71 #[.slice CA nC Cc,.int .u32 d] (l:=[.slice CA nC Cc,.int .u32 d]) rfl
 have hb4:=oneb w3 (.cells #[.slice CA nC Cc,.int .u32 d] 71)
 generalize World.alloc w3 _=w4 at hk8 hb4 ⊢
 obtain ⟨xp,hxp⟩:∃x,x=w3.heap.size:=⟨_,rfl⟩
 have HXp:=qd (show q≠xp by have:=HQw.out;have:=HB3.out.size;omega)
 rw [←hxp] at hk8 ⊢
 have HB4:=qd (HB3.out.trans (hb4.mono HB3.out.size))
 have HY4:=qd (HY3.out.kept hb4)
 have HF4:=qd (HF3.out.below (hb4.mono HF3.out.le))
 have HRw4:=qd (HRw3.out.below hb4)
 have HP4:=qd (show PlanR w4 CA cs from ⟨HP.out.row.below hb4,fun c hc=>(HP.out.brs c hc).below hb4,fun c hc b hb=>TRd.below (HP.out.con c hc b hb) hb4⟩)
 have HK4:=qd hk8
 have HG4:=qd (show w.grownBy w4 (some q) from grow_below (grown_refl w _) HB4.out)
 clear hk8 hb4 hxp HB3 HY3 HF3 HRw3 HP HB4
 go_wp2_with fail
 go_loopw [17] (fun iv wz=>∃j rj sj:Nat,iv=.int .i64 j∧j≤n∧rj≤rn+j∧sj≤st+4096*j∧Hid (Fil wz BB q b o c ins rj sj)∧Hid (w.grownBy wz (some q))∧Hid (Bk wz xb 60 (zeroR 0 0).cells)∧Hid (TRd wz 60 9 n A (rs.flatMap RcM.cells))∧Hid (PlanR wz CA cs)∧Hid (Bk wz xp 71 [.slice CA nC Cc,.int .u32 d])∧Hid ((rs.take j).find? (fun x=>g x != saysR d (rules.map RuleV.m) x)=none)) (fun iv _=>n-(intOf iv).toNat)
 case atStart=>exact ⟨0,rn,st,rfl,Nat.zero_le _,Nat.le_refl _,Nat.le_refl _,HF4,HG4,HY4,HRw4,HP4,HK4,qd rfl⟩
 case round=>
  clear HF4 HG4 HY4 HRw4 HP4 HK4
  rename World=>wz
  obtain ⟨j,rj,sj,rfl,hj,hrj,hsj,HF,HG4,HY,HRw,HP,HK,HNo⟩:=hrel
  by_cases hin:j<n
  ·obtain ⟨x,hx⟩:∃x,rs[j]?=some x:=⟨_,List.getElem?_eq_getElem (by have:=HL.out;omega)⟩
   have HXo:=qd (HO.out x (List.mem_of_getElem? hx))
   have HFi:=qd (show (rs.take (j+1)).find? (fun x=>g x != saysR d (rules.map RuleV.m) x)=if (g x != saysR d (rules.map RuleV.m) x)=true then some x else none by
    rw [List.take_add_one,hx,List.find?_append,HNo.out]
    simp only [Option.toList_some,List.find?_cons,List.find?_nil,Option.none_or]
    split<;>rename_i h<;>simp [h])
   have HTk:=qd (show rs=rs.take (j+1)++rs.drop (j+1) from (List.take_append_drop _ _).symm)
   obtain ⟨b3,o3,hA3,hb3,hcell⟩:=HRw.out.rd.one (f:=RcM.cells) (fun _=>rfl) (by omega) (by omega)
   subst hA3
   obtain ⟨c0,c1,c2,c3,c4,c5,c6,c7,c8⟩:=nine_recC hcell hx
   clear hcell hx
   go_upto_region 5 with fail
   have hbx:=oneb wz (.cells #[.int .u32 x.num,.int .u32 x.arch,.int .u64 x.at_,.int .u64 x.a0,.int .u64 x.a1,.int .u64 x.a2,.int .u64 x.a3,.int .u64 x.a4,.int .u64 x.a5] 60)
   have hkx:=Bk.new wz 60 #[.int .u32 x.num,.int .u32 x.arch,.int .u64 x.at_,.int .u64 x.a0,.int .u64 x.a1,.int .u64 x.a2,.int .u64 x.a3,.int .u64 x.a4,.int .u64 x.a5] (l:=x.cells) rfl
   clear c0 c1 c2 c3 c4 c5 c6 c7 c8
   generalize World.alloc wz _=w13 at hbx hkx ⊢
   obtain ⟨gx,hgx⟩:∃y,y=wz.heap.size:=⟨_,rfl⟩
   have HGx:=qd (show gx≠q by have:=HQw.out;have:=HG4.out.size;omega)
   rw [←hgx] at hkx ⊢
   have HF:=qd (HF.out.below (hbx.mono HF.out.le))
   have HG4:=qd (grow_below HG4.out hbx)
   have HY:=qd (HY.out.kept hbx)
   have HRw:=qd (HRw.out.below hbx)
   have HP:=qd (show PlanR w13 CA cs from ⟨HP.out.row.below hbx,fun c hc=>(HP.out.brs c hc).below hbx,fun c hc b hb=>TRd.below (HP.out.con c hc b hb) hbx⟩)
   have HK:=qd (HK.out.kept hbx)
   have HKx:=qd hkx
   obtain ⟨bs,hbs,hrl,hse⟩:=rec_bs x HXo.out
   have hnl:=run_len (recW bs) ins
   have R1:=qd (run_any bs ins BB q b o c rj sj w13 HF.out HG.out HI.out hbs (smK (by omega)) (smK (by omega)))
   unfold RunTo at R1
   have hsy:=HSay.out x HXo.out bs hse
   rw [hsy,hrl] at R1
   obtain ⟨gv,hgv⟩:∃s,s=g x:=⟨_,rfl⟩
   rw [←hgv] at R1 HFi
   obtain ⟨sv,hsv⟩:∃s,s=saysR d (rules.map RuleV.m) x:=⟨_,rfl⟩
   have HDd:=qd (HEq.out x HXo.out)
   rw [←hsv] at HDd HFi
   obtain ⟨n9,hn9⟩:∃n,n=(runN (recW bs) ins).1.length:=⟨_,rfl⟩
   rw [←hn9] at R1 hnl
   have hn94:n9≤4096:=Nat.le_trans hnl hil
   have y0:=hkx.cell 0 rfl
   have y1:=hkx.cell 1 rfl
   have y2:=hkx.cell 2 rfl
   have y3:=hkx.cell 3 rfl
   have y4:=hkx.cell 4 rfl
   have y5:=hkx.cell 5 rfl
   have y6:=hkx.cell 6 rfl
   have y7:=hkx.cell 7 rfl
   have y8:=hkx.cell 8 rfl
   have yl:=hkx.lt
   clear hbs hrl hse hsy hsv hgv hn9 hbx hkx hb3 hgx hnl
   go_wp2_with fail
   refine R1.out.mono ?_
   clear y0 y1 y2 y3 y4 y5 y6 y7 y8 yl R1
   rintro e w14 ⟨rfl,hf,hg⟩
   have HTy:=qd HF.out.bk.tyb
   have HKx:=qd (HKx.out.grown hg (fun e=>HGx.out (Option.some.inj e)))
   have HRw:=qd (HRw.out.grown hg (HRw.out.off HTy.out (by decide)))
   have HP:=qd (PlanR.grownT HP.out hg HTy.out)
   have HK:=qd (HK.out.grown hg (fun e=>HXp.out (Option.some.inj e).symm))
   have HY:=qd (HY.out.grown hg (fun e=>HXab.out.2.2.1 (Option.some.inj e).symm))
   have HG4:=qd (grown_trans HG4.out hg (fun j hj=>.inl hj))
   have HF:=qd hf
   clear hf hg HTy
   have hkx:=HKx.out
   have y0:=hkx.cell 0 rfl
   have y1:=hkx.cell 1 rfl
   have y2:=hkx.cell 2 rfl
   have y3:=hkx.cell 3 rfl
   have y4:=hkx.cell 4 rfl
   have y5:=hkx.cell 5 rfl
   have y6:=hkx.cell 6 rfl
   have y7:=hkx.cell 7 rfl
   have y8:=hkx.cell 8 rfl
   have yl:=hkx.lt
   have e0:=HK.out.cell 0 rfl
   have e1:=HK.out.cell 1 rfl
   have el:=HK.out.lt
   clear hkx
   go_wp2_with fail
   refine (HDe.out x HXo.out _ HP.out).mono ?_
   clear y0 y1 y2 y3 y4 y5 y6 y7 y8 yl e0 e1 el
   rintro e w15 ⟨r1,rfl,hb15,hdr⟩
   obtain rfl:=HDd.out r1 hdr
   have HF:=qd (HF.out.below (hb15.mono HF.out.le))
   have HKx:=qd (HKx.out.kept hb15)
   have HRw:=qd (HRw.out.below hb15)
   have HP:=qd (show PlanR w15 CA cs from ⟨HP.out.row.below hb15,fun c hc=>(HP.out.brs c hc).below hb15,fun c hc b hb=>TRd.below (HP.out.con c hc b hb) hb15⟩)
   have HK:=qd (HK.out.kept hb15)
   have HY:=qd (HY.out.kept hb15)
   have HG4:=qd (grow_below HG4.out hb15)
   clear hb15 hdr
   by_cases heq:gv=r1
   ·have ev:((gv:Int) != (r1:Int))=false:=by rw [heq];simp
    have HNo:=qd (HFi.out.trans (if_neg (by rw [heq];simp)))
    clear heq HFi HKx
    go_wp2_with fail
    go_roundw
    case rel=>exact ⟨j+1,rj+1,sj+n9,by go_num,by omega,by omega,by omega,HF,HG4,HY,HRw,HP,HK,HNo⟩
    case measure=>simp [intOf];omega
   ·have ev:((gv:Int) != (r1:Int))=true:=by rw [bne_iff_ne];omega
    have HFo:=qd (show rs.find? (fun x=>g x != saysR d (rules.map RuleV.m) x)=some x by
     rw [HTk.out,List.find?_append,HFi.out,if_pos (by simpa using heq)];rfl)
    clear heq HFi HTk
    have hkx:=HKx.out
    have y0:=hkx.cell 0 rfl
    have y1:=hkx.cell 1 rfl
    have y2:=hkx.cell 2 rfl
    have y3:=hkx.cell 3 rfl
    have y4:=hkx.cell 4 rfl
    have y5:=hkx.cell 5 rfl
    have y6:=hkx.cell 6 rfl
    have y7:=hkx.cell 7 rfl
    have y8:=hkx.cell 8 rfl
    have yl:=hkx.lt
    have z0:=HY.out.cell 0 rfl
    have z1:=HY.out.cell 1 rfl
    have z2:=HY.out.cell 2 rfl
    have z3:=HY.out.cell 3 rfl
    have z4:=HY.out.cell 4 rfl
    have z5:=HY.out.cell 5 rfl
    have z6:=HY.out.cell 6 rfl
    have z7:=HY.out.cell 7 rfl
    have z8:=HY.out.cell 8 rfl
    have zl:=HY.out.lt
    have f0:=HY.out.fz 0
    have f1:=HY.out.fz 1
    have f2:=HY.out.fz 2
    have f3:=HY.out.fz 3
    have f4:=HY.out.fz 4
    have f5:=HY.out.fz 5
    have f6:=HY.out.fz 6
    have f7:=HY.out.fz 7
    have f8:=HY.out.fz 8
    have hp:=put_rec HY.out x
    have HpB:=qd (show Bk (W9 w15 xb x) xb 60 x.cells from hp.1)
    have HpG:=qd (show w15.grownBy (W9 w15 xb x) (some xb) from hp.2)
    unfold W9 at HpB HpG
    clear hp hkx
    go_wp2_with fail
    clear y0 y1 y2 y3 y4 y5 y6 y7 y8 yl z0 z1 z2 z3 z4 z5 z6 z7 z8 zl f0 f1 f2 f3 f4 f5 f6 f7 f8
    have v0:=HpB.out.cell 0 rfl
    have v1:=HpB.out.cell 1 rfl
    have v2:=HpB.out.cell 2 rfl
    have v3:=HpB.out.cell 3 rfl
    have v4:=HpB.out.cell 4 rfl
    have v5:=HpB.out.cell 5 rfl
    have v6:=HpB.out.cell 6 rfl
    have v7:=HpB.out.cell 7 rfl
    have v8:=HpB.out.cell 8 rfl
    refine bodyPost_ret (v:=.tuple #[.agg #[.int .u32 x.num,.int .u32 x.arch,.int .u64 x.at_,.int .u64 x.a0,.int .u64 x.a1,.int .u64 x.a2,.int .u64 x.a3,.int .u64 x.a4,.int .u64 x.a5],.bool true]) ?_ rfl ?_
    ·simp [results,Tryz.results21,go_sem,v0,v1,v2,v3,v4,v5,v6,v7,v8]
    refine ⟨?_,⟨rj+1,sj+n9,by omega,by omega,?_⟩,?_⟩
    ·unfold diffF;rw [HFo.out];rfl
    ·exact HF.out.other HpG.out HXab.out.2.2.1 (by have:=HXab.out.2.2.2;have:=HQb.out;omega)
    ·exact grown_trans HG4.out HpG.out (fun j hj=>.inr (by cases hj;exact HXab.out.2.2.2))
  ·obtain rfl:j=n:=by omega
   have HNo:=qd (show rs.find? (fun x=>g x != saysR d (rules.map RuleV.m) x)=none by have:=HNo.out;rwa [List.take_of_length_le (by have:=HL.out;omega)] at this)
   have z0:=HY.out.cell 0 rfl
   have z1:=HY.out.cell 1 rfl
   have z2:=HY.out.cell 2 rfl
   have z3:=HY.out.cell 3 rfl
   have z4:=HY.out.cell 4 rfl
   have z5:=HY.out.cell 5 rfl
   have z6:=HY.out.cell 6 rfl
   have z7:=HY.out.cell 7 rfl
   have z8:=HY.out.cell 8 rfl
   have zl:=HY.out.lt
   have f0:=HY.out.fz 0
   have f1:=HY.out.fz 1
   have f2:=HY.out.fz 2
   have f3:=HY.out.fz 3
   have f4:=HY.out.fz 4
   have f5:=HY.out.fz 5
   have f6:=HY.out.fz 6
   have f7:=HY.out.fz 7
   have f8:=HY.out.fz 8
   have hp:=put_rec HY.out (zeroR 0 0)
   have HpB:=qd (show Bk (((((((((wz.setCell ⟨xb,0,none⟩ (.int .u32 0)).setCell ⟨xb,1,none⟩ (.int .u32 0)).setCell ⟨xb,2,none⟩ (.int .u64 0)).setCell ⟨xb,3,none⟩ (.int .u64 0)).setCell ⟨xb,4,none⟩ (.int .u64 0)).setCell ⟨xb,5,none⟩ (.int .u64 0)).setCell ⟨xb,6,none⟩ (.int .u64 0)).setCell ⟨xb,7,none⟩ (.int .u64 0)).setCell ⟨xb,8,none⟩ (.int .u64 0)) xb 60 #[.int .u32 0,.int .u32 0,.int .u64 0,.int .u64 0,.int .u64 0,.int .u64 0,.int .u64 0,.int .u64 0,.int .u64 0].toList from hp.1)
   have HpG:=qd (show wz.grownBy (((((((((wz.setCell ⟨xb,0,none⟩ (.int .u32 0)).setCell ⟨xb,1,none⟩ (.int .u32 0)).setCell ⟨xb,2,none⟩ (.int .u64 0)).setCell ⟨xb,3,none⟩ (.int .u64 0)).setCell ⟨xb,4,none⟩ (.int .u64 0)).setCell ⟨xb,5,none⟩ (.int .u64 0)).setCell ⟨xb,6,none⟩ (.int .u64 0)).setCell ⟨xb,7,none⟩ (.int .u64 0)).setCell ⟨xb,8,none⟩ (.int .u64 0)) (some xb) from hp.2)
   clear hp
   go_wp2_with fail
   clear z0 z1 z2 z3 z4 z5 z6 z7 z8 zl f0 f1 f2 f3 f4 f5 f6 f7 f8
   have v0:=HpB.out.cell 0 rfl
   have v1:=HpB.out.cell 1 rfl
   have v2:=HpB.out.cell 2 rfl
   have v3:=HpB.out.cell 3 rfl
   have v4:=HpB.out.cell 4 rfl
   have v5:=HpB.out.cell 5 rfl
   have v6:=HpB.out.cell 6 rfl
   have v7:=HpB.out.cell 7 rfl
   have v8:=HpB.out.cell 8 rfl
   refine bodyPost_ret (v:=.tuple #[.agg #[.int .u32 0,.int .u32 0,.int .u64 0,.int .u64 0,.int .u64 0,.int .u64 0,.int .u64 0,.int .u64 0,.int .u64 0],.bool false]) ?_ rfl ?_
   ·simp [results,Tryz.results21,go_sem,v0,v1,v2,v3,v4,v5,v6,v7,v8]
   refine ⟨?_,⟨rj,sj,by omega,by omega,?_⟩,?_⟩
   ·unfold diffF;rw [HNo.out];rfl
   ·exact HF.out.other HpG.out HXab.out.2.2.1 (by have:=HXab.out.2.2.2;have:=HQb.out;omega)
   ·exact grown_trans HG4.out HpG.out (fun j hj=>.inr (by cases hj;exact HXab.out.2.2.2))
end Go.Proofs.YtcnebdjhhfnmoaaGreatDoor.Co
namespace Go.Proofs.YtcnebdjhhfnmoaaGreatDoor.Me
open Go.RowKit Go.WideElems
theorem two_all {α:Type}{Q:α→Prop}{a b:α}(ha:Q a)(hb:Q b):∀x∈[a,b],Q x:=fun x hx=>by
 simp only [List.mem_cons,List.not_mem_nil,or_false] at hx
 rcases hx with rfl|rfl
 ·exact ha
 ·exact hb
theorem six_pol {w:World}{g n k:Nat}{l:List PolV}{x:PolV}(h:Rd w 6 n (some ⟨g,0,none⟩) (l.flatMap PolV.cells))(hx:l[k]?=some x) :
  w.cell? ⟨g,k*6,none⟩=some (.string ⟨x.name.toArray⟩)∧w.cell? ⟨g,k*6+1,none⟩=some (.int .u32 x.dflt)∧w.cell? ⟨g,k*6+2,none⟩=some (.slice x.RA x.rules.length x.Rc)∧w.cell? ⟨g,k*6+3,none⟩=some (.int .u16 x.handled)∧w.cell? ⟨g,k*6+4,none⟩=some (.slice x.PA x.paths.length x.Pc)∧w.cell? ⟨g,k*6+5,none⟩=some (.slice x.QA x.ports.length x.Qc):=by
 have hn:0<n:=by
  have h1:=h.len
  rw [flatz_len PolV.cells 6 (fun _=>rfl)] at h1
  have:=(List.getElem?_eq_some_iff.1 hx).1
  omega
 obtain ⟨b,o,e,_,hc⟩:=h.one (fun _=>rfl) (by omega) hn
 cases e
 have hj:=fun j v hv=>hc k x hx j v hv
 simp only [Nat.zero_add] at hj
 exact ⟨hj 0 _ rfl,hj 1 _ rfl,hj 2 _ rfl,hj 3 _ rfl,hj 4 _ rfl,hj 5 _ rfl⟩
end Go.Proofs.YtcnebdjhhfnmoaaGreatDoor.Me
