/- Edges: calls at which a policy may turn: lists; there, beside. -/
import Derived.Test.YtcnebdjhhfnmoaaGreatDoorL24
import Derived.Test.YtcnebdjhhfnmoaaGreatDoorL36
import Derived.Laws.OwnMore
import Derived.Test.YtcnebdjhhfnmoaaGreatDoorL01
set_option maxHeartbeats 32000000
set_option maxRecDepth 100000
namespace Go.Proofs.YtcnebdjhhfnmoaaGreatDoor.Co
open Go.RowKit Go.Maps Go.WideMaps Go.WideElems Go.ChangeMaps Go.Proofs.YtcnebdjhhfnmoaaGreatDoor.Ju Go.Proofs.YtcnebdjhhfnmoaaGreatDoor.Me
def setA (x:RcM)(k v:Nat):RcM:=match k with
 | 0=>{ x with a0:=v }
 | 1=>{ x with a1:=v }
 | 2=>{ x with a2:=v }
 | 3=>{ x with a3:=v }
 | 4=>{ x with a4:=v }
 | 5=>{ x with a5:=v }
 | _=>x
theorem setA_cells (x:RcM)(v:Nat){k:Nat}(h:k<6):(setA x k v).cells=x.cells.set (3+k) (.int .u64 v):=by
 rcases six h with rfl|rfl|rfl|rfl|rfl|rfl<;>rfl
theorem setA_ok {x:RcM}{v k:Nat}(h:x.ok)(hv:v<18446744073709551616):(setA x k v).ok:=by
 unfold setA
 split
 ·exact ⟨h.num,h.arch,h.at_,hv,h.a1,h.a2,h.a3,h.a4,h.a5⟩
 ·exact ⟨h.num,h.arch,h.at_,h.a0,hv,h.a2,h.a3,h.a4,h.a5⟩
 ·exact ⟨h.num,h.arch,h.at_,h.a0,h.a1,hv,h.a3,h.a4,h.a5⟩
 ·exact ⟨h.num,h.arch,h.at_,h.a0,h.a1,h.a2,hv,h.a4,h.a5⟩
 ·exact ⟨h.num,h.arch,h.at_,h.a0,h.a1,h.a2,h.a3,hv,h.a5⟩
 ·exact ⟨h.num,h.arch,h.at_,h.a0,h.a1,h.a2,h.a3,h.a4,hv⟩
 ·exact h
theorem setA_twice (x:RcM)(k u v:Nat):setA (setA x k u) k v=setA x k v:=
 match k with
 | 0=>rfl
 | 1=>rfl
 | 2=>rfl
 | 3=>rfl
 | 4=>rfl
 | 5=>rfl
 | _+6=>rfl
def thereB (a:Int):Bool:=decide (0≤a∧a≤5)
def besN (c:CondM):List Nat:=[(c.val+18446744073709551615)%18446744073709551616,(c.val+1)%18446744073709551616,c.val^^^4294967296,c.val|||(18446744073709551615^^^c.mask),0]
def besL (c:CondM)(x:RcM):List RcM:=(besN c).map (setA x c.arg.toNat)
def baseS (x:RcM)(c:CondM):RcM:=if thereB c.arg=true then setA x c.arg.toNat c.val else x
def zeroR (n a:Nat):RcM:=⟨n,a,0,0,0,0,0,0,0⟩
def baseR (r:RuleM):RcM:=r.conds.foldl baseS (zeroR r.num 3221225534)
def turnC (x:RcM)(c:CondM):List RcM:=if thereB c.arg=true then besL c x else []
def turnL (r:RuleM):List RcM:=baseR r::r.conds.flatMap (turnC (baseR r))
def edgeL (l:List RuleM):List RcM:=zeroR 0 3221225534::zeroR 0 3221225535::l.flatMap turnL
theorem n_sub (v:Nat):IntKind.u64.wrap ((v:Int)-1)=(((v+18446744073709551615)%18446744073709551616:Nat):Int):=by rw [IntKind.wrap_u64];omega
theorem n_add (v:Nat):IntKind.u64.wrap ((v:Int)+1)=(((v+1)%18446744073709551616:Nat):Int):=by rw [IntKind.wrap_u64];omega
theorem n_max:IntKind.u64.max=((18446744073709551615:Nat):Int):=by decide
theorem n_not {m:Nat}(h:m<18446744073709551616):bits .xor .u64 IntKind.u64.max (m:Int)=((18446744073709551615^^^m:Nat):Int):=by
 rw [n_max];exact u64_xor_nat 18446744073709551615 m (by omega) h
theorem besN_lt {c:CondM}(h:c.ok):∀v∈besN c,v<18446744073709551616:=fun v hv=>by
 have h1:=h.2.2.2.1
 have h2:=h.2.2.2.2
 have l1:c.val^^^4294967296<18446744073709551616:=Nat.xor_lt_two_pow (n:=64) h2 (by omega)
 have l2:18446744073709551615^^^c.mask<18446744073709551616:=Nat.xor_lt_two_pow (n:=64) (by omega) h1
 have l3:c.val|||(18446744073709551615^^^c.mask)<18446744073709551616:=Nat.or_lt_two_pow (n:=64) h2 l2
 simp only [besN,List.mem_cons,List.not_mem_nil,or_false] at hv
 rcases hv with h|h|h|h|h
 ·rw [h];exact Nat.mod_lt _ (by omega)
 ·rw [h];exact Nat.mod_lt _ (by omega)
 ·rw [h];exact l1
 ·rw [h];exact l3
 ·omega
theorem base_ok:∀(l:List CondM)(x:RcM),x.ok→(∀c∈l,c.ok)→(l.foldl baseS x).ok
 | [],_,h,_=>h
 | c::t,x,h,hc=>by
  refine base_ok t (baseS x c) ?_ fun d hd=>hc d (List.mem_cons_of_mem _ hd)
  unfold baseS
  split
  ·exact setA_ok h (hc c List.mem_cons_self).2.2.2.2
  ·exact h
theorem zeroR_ok {n a:Nat}(hn:n<4294967296)(ha:a<4294967296):(zeroR n a).ok:=⟨hn,ha,by simp [zeroR],by simp [zeroR],by simp [zeroR],by simp [zeroR],by simp [zeroR],by simp [zeroR],by simp [zeroR]⟩
theorem baseR_ok {r:RuleM}(h:r.ok):(baseR r).ok:=base_ok _ _ (zeroR_ok h.1 (by omega)) h.2.2.2
theorem turn_ok {r:RuleM}(h:r.ok):∀x∈turnL r,x.ok:=fun x hx=>by
 rcases List.mem_cons.1 hx with rfl|hx
 ·exact baseR_ok h
 ·obtain ⟨c,hc,hx⟩:=List.mem_flatMap.1 hx
  unfold turnC at hx
  split at hx
  ·obtain ⟨v,hv,rfl⟩:=List.mem_map.1 hx
   exact setA_ok (baseR_ok h) (besN_lt (h.2.2.2 c hc) v hv)
  ·cases hx
theorem edge_ok {l:List RuleM}(h:∀r∈l,r.ok):∀x∈edgeL l,x.ok:=fun x hx=>by
 rcases List.mem_cons.1 hx with rfl|hx
 ·exact zeroR_ok (by omega) (by omega)
 rcases List.mem_cons.1 hx with rfl|hx
 ·exact zeroR_ok (by omega) (by omega)
 ·obtain ⟨r,hr,hx⟩:=List.mem_flatMap.1 hx
  exact turn_ok (h r hr) x hx
theorem turnC_len (x:RcM):∀l:List CondM,(l.flatMap (turnC x)).length≤5*l.length
 | []=>Nat.le_refl _
 | c::t=>by
  have:=turnC_len x t
  have h:(turnC x c).length≤5:=by unfold turnC;split<;>simp [besL,besN]
  rw [List.flatMap_cons,List.length_append,List.length_cons];omega
theorem turn_len (r:RuleM):(turnL r).length≤1+5*r.conds.length:=by
 have:=turnC_len (baseR r) r.conds
 unfold turnL
 rw [List.length_cons];omega
theorem edge_len (M:Nat):∀l:List RuleM,(∀r∈l,r.conds.length≤M)→(l.flatMap turnL).length≤(1+5*M)*l.length
 | [],_=>Nat.le_refl _
 | r::t,h=>by
  have h1:=edge_len M t fun q hq=>h q (List.mem_cons_of_mem _ hq)
  have h2:=turn_len r
  have h3:=h r List.mem_cons_self
  rw [List.flatMap_cons,List.length_append,List.length_cons,Nat.mul_add,Nat.mul_one]
  omega
def RecOut (l:List RcM)(w:World)(e:Ending)(w':World):Prop:=
 ∃A c,e=.returned (.slice A l.length c)∧w'.ownsRow w.heap.size 60 9 (.slice A l.length c) l.length (l.flatMap RcM.cells)∧Below w.heap.size w w'
theorem there_any (a:Int)(w:World):Calls Tryz.prog 85 #[.int .i64 a] w fun e w'=>e=.returned (.bool (thereB a))∧w=w':=by
 have h1:thereB a=(decide (0≤a)&&decide (a<6)):=by
  unfold thereB
  rw [Bool.eq_iff_iff,Bool.and_eq_true,decide_eq_true_iff,decide_eq_true_iff,decide_eq_true_iff];omega
 rw [h1]
 go_enter Tryz.func85,Tryz.ntmps85
 by_cases h0:0≤a
 ·have d0:decide (0≤a)=true:=decide_eq_true h0
  rw [d0]
  by_cases h6:a<6
  ·have d6:decide (a<6)=true:=decide_eq_true h6
   rw [d6]
   go_wp2_with fail
   go_ret
   exact ⟨rfl,rfl⟩
  ·have d6:decide (a<6)=false:=decide_eq_false h6
   rw [d6]
   go_wp2_with fail
   go_ret
   exact ⟨rfl,rfl⟩
 ·have d0:decide (0≤a)=false:=decide_eq_false h0
  rw [d0]
  go_wp2_with fail
  go_ret
  exact ⟨rfl,rfl⟩
structure RkR (w wr:World)(v:Value)(xb:Nat)(left:List RcM)(x:RcM):Prop where
 bel:Below w.heap.size w wr
 row:wr.ownsRow w.heap.size 60 9 v left.length (left.flatMap RcM.cells)
 box:Bk wr xb 60 x.cells
 ge:w.heap.size≤xb
 off:∀g,v.ownBlock=some g→g≠xb
theorem RkR.kept {w wr w':World}{v:Value}{xb:Nat}{s:List RcM}{q:RcM}(h:RkR w wr v xb s q)(hb:Below wr.heap.size wr w'):RkR w w' v xb s q:=⟨h.bel.trans (hb.mono h.bel.size),own_keepN h.row hb,h.box.kept hb,h.ge,h.off⟩
theorem RkR.more {w wr w':World}{v v':Value}{xb:Nat}{s t:List RcM}{l:RcM}(h:RkR w wr v xb s l)(hr:w'.ownsRow w.heap.size 60 9 v' (s.length+t.length) (s.flatMap RcM.cells++t.flatMap RcM.cells))(hg:wr.grownBy w' v.ownBlock)(hv:v'.ownBlock=v.ownBlock∨v'.ownBlock=some wr.heap.size):RkR w w' v' xb (s++t) l:=
 ⟨h.bel.grown hg h.bel.size (fun r e=>(Ju.own_ge h.row r e).1),by simpa using hr,h.box.grown hg (fun e=>h.off _ e.symm rfl),h.ge,fun g e=>by
  rcases hv with a|a
  ·exact h.off g (by rw [←a];exact e)
  ·rw [a] at e;cases e;have:=h.box.lt;omega⟩
theorem RkR.more1 {w wr w':World}{v v':Value}{xb:Nat}{s:List RcM}{l z:RcM}(h:RkR w wr v xb s l)(hr:w'.ownsRow w.heap.size 60 9 v' (s.length+1) (s.flatMap RcM.cells++z.cells))(hg:wr.grownBy w' v.ownBlock)(hv:v'.ownBlock=v.ownBlock∨v'.ownBlock=some wr.heap.size):RkR w w' v' xb (s++[z]) l:=h.more (t:=[z]) (by simpa using hr) hg hv
theorem RkR.slice {w wr:World}{v:Value}{xb:Nat}{s:List RcM}{q:RcM}(h:RkR w wr v xb s q):∃A cp,v=.slice A s.length cp:=by obtain ⟨A,cp,e,_⟩:=own_typed h.row;exact ⟨A,cp,e⟩
theorem RkR.set {w wr:World}{v:Value}{xb:Nat}{s:List RcM}{x:RcM}(h:RkR w wr v xb s x){k n:Nat}(hk:k<6):RkR w (wr.setCell ⟨xb,3+k,none⟩ (.int .u64 n)) v xb s (setA x k n):=
 ⟨only_below h.bel (only_set wr xb (3+k) _) h.bel.size h.ge,own_keep h.row (only_set wr xb (3+k) _) (fun g e=>h.off g e),by rw [setA_cells x n hk];exact h.box.set (3+k) _,h.ge,h.off⟩
theorem bk_app {w w':World}{v:Value}{g:Nat}{l:List Value}(h:Bk w g 89 l)(hg:w.grownBy w' v.ownBlock)(hv:∀g,v.ownBlock=some g→TyB w g 60):Bk w' g 89 l:=by
 refine h.grown hg fun e=>?_
 exact absurd rfl (h.tyb.ne (hv g e.symm) (by decide))
theorem beside_any (c:CondM)(x:RcM)(k:Nat)(w:World)(hc:c.ok)(hk:c.arg=(k:Int))(hk6:k<6) :
  Calls Tryz.prog 86 #[.agg #[.int .i64 c.arg,.int .u8 c.op,.int .u64 c.mask,.int .u64 c.val],.agg #[.int .u32 x.num,.int .u32 x.arch,.int .u64 x.at_,.int .u64 x.a0,.int .u64 x.a1,.int .u64 x.a2,.int .u64 x.a3,.int .u64 x.a4,.int .u64 x.a5]] w (RecOut (besL c x) w):=by
 obtain ⟨W1,hW1⟩:∃W,W=w.alloc (.cells #[.int .i64 c.arg,.int .u8 c.op,.int .u64 c.mask,.int .u64 c.val] 89):=⟨_,rfl⟩
 obtain ⟨W2,hW2⟩:∃W,W=W1.alloc (.cells #[.int .u32 x.num,.int .u32 x.arch,.int .u64 x.at_,.int .u64 x.a0,.int .u64 x.a1,.int .u64 x.a2,.int .u64 x.a3,.int .u64 x.a4,.int .u64 x.a5] 60):=⟨_,rfl⟩
 have hs1:W1.heap.size=w.heap.size+1:=by rw [hW1];simp
 have hb1:Below w.heap.size w W2:=by rw [hW2];exact (show Below w.heap.size w W1 by rw [hW1];exact oneb w _).trans ((oneb W1 _).mono (by omega))
 have hbx:Bk W2 w.heap.size 89 c.cells:=by rw [hW2];exact (show Bk W1 w.heap.size 89 c.cells by rw [hW1];exact Bk.new w _ _ rfl).kept (oneb W1 _)
 have hby:Bk W2 (w.heap.size+1) 60 x.cells:=by rw [hW2,←hs1];exact Bk.new W1 _ _ rfl
 have HA:=qd (show RkR w W2 (.slice none 0 0) (w.heap.size+1) [] x from ⟨hb1,World.ownsRow_nil _ _ _ _,hby,by omega,fun g e=>by cases e⟩)
 have HC:=qd hbx
 have hm:=hc.2.2.2.1
 have hv:=hc.2.2.2.2
 have e1:=n_sub c.val
 have e2:=n_add c.val
 have e3:=u64_xor_nat c.val 4294967296 hv (by omega)
 have e4:=n_not hm
 have l2:18446744073709551615^^^c.mask<18446744073709551616:=Nat.xor_lt_two_pow (n:=64) (by omega) hm
 have e5:=u64_or_nat c.val (18446744073709551615^^^c.mask) hv l2
 have hN:besN c=[(c.val+18446744073709551615)%18446744073709551616,(c.val+1)%18446744073709551616,c.val^^^4294967296,c.val|||(18446744073709551615^^^c.mask),0]:=rfl
 obtain ⟨n0,hn0⟩:∃n,n=(c.val+18446744073709551615)%18446744073709551616:=⟨_,rfl⟩
 obtain ⟨n1,hn1⟩:∃n,n=(c.val+1)%18446744073709551616:=⟨_,rfl⟩
 obtain ⟨n2,hn2⟩:∃n,n=c.val^^^4294967296:=⟨_,rfl⟩
 obtain ⟨n5,hn5⟩:∃n,n=18446744073709551615^^^c.mask:=⟨_,rfl⟩
 rw [←hn5] at e4 e5 hN
 obtain ⟨n3,hn3⟩:∃n,n=c.val|||n5:=⟨_,rfl⟩
 rw [←hn0] at e1 hN
 rw [←hn1] at e2 hN
 rw [←hn2] at hN
 have e3:bits .xor .u64 (c.val:Int) 4294967296=(n2:Int):=by rw [hn2];exact e3
 rw [←hn3] at e5 hN
 have HN:=qd (show besL c x=[setA x k n0,setA x k n1,setA x k n2,setA x k n3,setA x k 0] by unfold besL;rw [hN,hk];rfl)
 have HKk:=qd hk
 clear hn0 hn1 hn2 hn3 hn5 hN l2 hm hv hbx hby hb1 hc hk
 go_enter Tryz.func86,Tryz.ntmps86
 go_upto_region 2 with fail
 rw [←hW1,←hW2]
 clear hW1 hW2 hs1
 obtain ⟨xa,hxa⟩:∃x,x=w.heap.size:=⟨_,rfl⟩
 obtain ⟨xb,hxb⟩:∃x,x=xa+1:=⟨_,rfl⟩
 rw [←hxa] at HA HC ⊢
 rw [←hxb] at HA ⊢
 have HXab:=qd (show xa≠xb∧w.heap.size≤xa by omega)
 clear hxa hxb
 have y0:=HC.out.cell 0 rfl
 have y1:=HC.out.cell 1 rfl
 have y2:=HC.out.cell 2 rfl
 have y3:=HC.out.cell 3 rfl
 have yl:=HC.out.lt
 rw [HKk.out] at y0
 go_wp2_with fail
 clear y1 y2 y3 e1 e2 e3 e4 e5
 have hki:(k:Int)<6:=by omega
 have HK2:=qd (show ∀wz,RkR w wz (.slice none 0 0) xb [] x→True from fun _ _=>trivial)
 clear HK2
 have HC0:=qd (show Bk W2 xa 89 c.cells from HC.out)
 have HG0:=qd (grown_refl W2 (some xb))
 go_loopw [5,24] (fun sv iv wz=>∃(i:Nat) (s:List RcM) (y:RcM) (B:Option Addr) (c9:Nat),iv=.int .i64 i∧sv=.slice B s.length c9∧i≤5∧s.length=i∧Hid (RkR w wz (.slice B s.length c9) xb s y)∧Hid (∀v,setA y k v=setA x k v)∧Hid (Bk wz xa 89 c.cells)∧Hid (s=[setA x k n0,setA x k n1,setA x k n2,setA x k n3,setA x k 0].take i)) (fun _ iv _=>5-(intOf iv).toNat)
 case atStart=>exact ⟨0,[],x,none,0,rfl,rfl,Nat.zero_le _,rfl,HA,qd (fun _=>rfl),HC0,qd rfl⟩
 case round=>
  clear HA HC HC0 HG0 y0 yl
  rename World=>wz
  obtain ⟨i,s,y,B,c9,rfl,rfl,hi,hli,HA,HY,HC,HS⟩:=hrel
  have y0:=HC.out.cell 0 rfl
  rw [HKk.out] at y0
  have yl:=HC.out.lt
  have f3:=HA.out.box.cell (3+k) (RcM.arg_cell y hk6)
  have fz:=HA.out.box.fz (3+k)
  have fl:=HA.out.box.lt
  rcases (show i=5∨i=0∨i=1∨i=2∨i=3∨i=4 by omega) with rfl|rfl|rfl|rfl|rfl|rfl
  ·go_wp2_with fail
   go_ret
   rw [show besL c x=s by rw [HN.out,HS.out];rfl]
   exact ⟨B,c9,rfl,HA.out.row,HA.out.bel⟩
  ·have hix:∀W:World,(Instr.index 238 (.agg #[.int .u64 n0,.int .u64 n1,.int .u64 n2,.int .u64 n3,.int .u64 0]) (.int .i64 0)).run Tryz.prog W=.ok (.int .u64 n0) W:=fun W=>by kernel_rfl
   go_upto_region 6 with fail
   have hn:=HA.out.set (n:=n0) hk6
   rw [HY.out n0] at hn
   have hc:=HC.out.grown (only_set wz xb (3+k) (.int .u64 ((n0:Nat):Int))) (fun e=>HXab.out.1 (Option.some.inj e))
   obtain ⟨z,hz⟩:∃z,z=setA x k n0:=⟨_,rfl⟩
   rw [←hz] at hn
   have HYz:=qd (show ∀v,setA z k v=setA x k v from fun v=>by rw [hz];exact setA_twice x k n0 v)
   have HSz:=qd (show s++[z]=[setA x k n0,setA x k n1,setA x k n2,setA x k n3,setA x k 0].take 1 by rw [HS.out,hz];rfl)
   clear f3 fz fl y0 yl hz HA HC hix
   have HA:=qd hn
   have HC:=qd hc
   clear hn hc
   generalize World.setCell wz _ _=w5 at HA HC ⊢
   have f0:=HA.out.box.cell 0 rfl
   have f1:=HA.out.box.cell 1 rfl
   have f2:=HA.out.box.cell 2 rfl
   have f3:=HA.out.box.cell 3 rfl
   have f4:=HA.out.box.cell 4 rfl
   have f5:=HA.out.box.cell 5 rfl
   have f6:=HA.out.box.cell 6 rfl
   have f7:=HA.out.box.cell 7 rfl
   have f8:=HA.out.box.cell 8 rfl
   have fl:=HA.out.box.lt
   have HA5b:=qd (HA.out.kept (oneb w5 (.cells #[.int .u32 z.num,.int .u32 z.arch,.int .u64 z.at_,.int .u64 z.a0,.int .u64 z.a1,.int .u64 z.a2,.int .u64 z.a3,.int .u64 z.a4,.int .u64 z.a5] 60)))
   have HC5b:=qd (HC.out.kept (oneb w5 (.cells #[.int .u32 z.num,.int .u32 z.arch,.int .u64 z.at_,.int .u64 z.a0,.int .u64 z.a1,.int .u64 z.a2,.int .u64 z.a3,.int .u64 z.a4,.int .u64 z.a5] 60)))
   have HTy:=qd (own_ty HA5b.out.row)
   go_wp2_with (at_builtin;refine append_one rfl (.tmp 32) (.tmp 34) 36 60 rfl _ 9 64 infoRec Tryz.underlying36 rfl (by decide) (by decide) w.heap.size _ s.length (s.flatMap RcM.cells) rfl HA5b.out.row w5.heap.size [.int .u32 z.num,.int .u32 z.arch,.int .u64 z.at_,.int .u64 z.a0,.int .u64 z.a1,.int .u64 z.a2,.int .u64 z.a3,.int .u64 z.a4,.int .u64 z.a5] rfl rfl (Bk.new w5 _ _ rfl) (rec_one z) (by omega) HA5b.out.bel.size ?_;intro v' w6 hown hgrow hv6;have HA6:=qd (HA5b.out.more1 (z:=z) hown hgrow hv6);have HC6:=qd (bk_app HC5b.out hgrow HTy.out);clear f0 f1 f2 f3 f4 f5 f6 f7 f8 fl hown hgrow hv6;obtain ⟨A7,c7,hv7⟩:=HA6.out.slice;obtain ⟨n7,hn7⟩:∃n7,n7=(s++[z]).length:=⟨_,rfl⟩;rw [←hn7] at hv7;subst hv7;have HN7:=qd hn7;clear hn7)
   rw [HN7.out] at HA6
   go_roundw
   case rel=>exact ⟨1,s++[z],z,A7,c7,rfl,by rw [HN7.out],by omega,by simp [hli],HA6,HYz,HC6,HSz⟩
   case measure=>simp [intOf]
  ·have hix:∀W:World,(Instr.index 238 (.agg #[.int .u64 n0,.int .u64 n1,.int .u64 n2,.int .u64 n3,.int .u64 0]) (.int .i64 1)).run Tryz.prog W=.ok (.int .u64 n1) W:=fun W=>by kernel_rfl
   go_upto_region 6 with fail
   have hn:=HA.out.set (n:=n1) hk6
   rw [HY.out n1] at hn
   have hc:=HC.out.grown (only_set wz xb (3+k) (.int .u64 ((n1:Nat):Int))) (fun e=>HXab.out.1 (Option.some.inj e))
   obtain ⟨z,hz⟩:∃z,z=setA x k n1:=⟨_,rfl⟩
   rw [←hz] at hn
   have HYz:=qd (show ∀v,setA z k v=setA x k v from fun v=>by rw [hz];exact setA_twice x k n1 v)
   have HSz:=qd (show s++[z]=[setA x k n0,setA x k n1,setA x k n2,setA x k n3,setA x k 0].take 2 by rw [HS.out,hz];rfl)
   clear f3 fz fl y0 yl hz HA HC hix
   have HA:=qd hn
   have HC:=qd hc
   clear hn hc
   generalize World.setCell wz _ _=w5 at HA HC ⊢
   have f0:=HA.out.box.cell 0 rfl
   have f1:=HA.out.box.cell 1 rfl
   have f2:=HA.out.box.cell 2 rfl
   have f3:=HA.out.box.cell 3 rfl
   have f4:=HA.out.box.cell 4 rfl
   have f5:=HA.out.box.cell 5 rfl
   have f6:=HA.out.box.cell 6 rfl
   have f7:=HA.out.box.cell 7 rfl
   have f8:=HA.out.box.cell 8 rfl
   have fl:=HA.out.box.lt
   have HA5b:=qd (HA.out.kept (oneb w5 (.cells #[.int .u32 z.num,.int .u32 z.arch,.int .u64 z.at_,.int .u64 z.a0,.int .u64 z.a1,.int .u64 z.a2,.int .u64 z.a3,.int .u64 z.a4,.int .u64 z.a5] 60)))
   have HC5b:=qd (HC.out.kept (oneb w5 (.cells #[.int .u32 z.num,.int .u32 z.arch,.int .u64 z.at_,.int .u64 z.a0,.int .u64 z.a1,.int .u64 z.a2,.int .u64 z.a3,.int .u64 z.a4,.int .u64 z.a5] 60)))
   have HTy:=qd (own_ty HA5b.out.row)
   go_wp2_with (at_builtin;refine append_one rfl (.tmp 32) (.tmp 34) 36 60 rfl _ 9 64 infoRec Tryz.underlying36 rfl (by decide) (by decide) w.heap.size _ s.length (s.flatMap RcM.cells) rfl HA5b.out.row w5.heap.size [.int .u32 z.num,.int .u32 z.arch,.int .u64 z.at_,.int .u64 z.a0,.int .u64 z.a1,.int .u64 z.a2,.int .u64 z.a3,.int .u64 z.a4,.int .u64 z.a5] rfl rfl (Bk.new w5 _ _ rfl) (rec_one z) (by omega) HA5b.out.bel.size ?_;intro v' w6 hown hgrow hv6;have HA6:=qd (HA5b.out.more1 (z:=z) hown hgrow hv6);have HC6:=qd (bk_app HC5b.out hgrow HTy.out);clear f0 f1 f2 f3 f4 f5 f6 f7 f8 fl hown hgrow hv6;obtain ⟨A7,c7,hv7⟩:=HA6.out.slice;obtain ⟨n7,hn7⟩:∃n7,n7=(s++[z]).length:=⟨_,rfl⟩;rw [←hn7] at hv7;subst hv7;have HN7:=qd hn7;clear hn7)
   rw [HN7.out] at HA6
   go_roundw
   case rel=>exact ⟨2,s++[z],z,A7,c7,rfl,by rw [HN7.out],by omega,by simp [hli],HA6,HYz,HC6,HSz⟩
   case measure=>simp [intOf]
  ·have hix:∀W:World,(Instr.index 238 (.agg #[.int .u64 n0,.int .u64 n1,.int .u64 n2,.int .u64 n3,.int .u64 0]) (.int .i64 2)).run Tryz.prog W=.ok (.int .u64 n2) W:=fun W=>by kernel_rfl
   go_upto_region 6 with fail
   have hn:=HA.out.set (n:=n2) hk6
   rw [HY.out n2] at hn
   have hc:=HC.out.grown (only_set wz xb (3+k) (.int .u64 ((n2:Nat):Int))) (fun e=>HXab.out.1 (Option.some.inj e))
   obtain ⟨z,hz⟩:∃z,z=setA x k n2:=⟨_,rfl⟩
   rw [←hz] at hn
   have HYz:=qd (show ∀v,setA z k v=setA x k v from fun v=>by rw [hz];exact setA_twice x k n2 v)
   have HSz:=qd (show s++[z]=[setA x k n0,setA x k n1,setA x k n2,setA x k n3,setA x k 0].take 3 by rw [HS.out,hz];rfl)
   clear f3 fz fl y0 yl hz HA HC hix
   have HA:=qd hn
   have HC:=qd hc
   clear hn hc
   generalize World.setCell wz _ _=w5 at HA HC ⊢
   have f0:=HA.out.box.cell 0 rfl
   have f1:=HA.out.box.cell 1 rfl
   have f2:=HA.out.box.cell 2 rfl
   have f3:=HA.out.box.cell 3 rfl
   have f4:=HA.out.box.cell 4 rfl
   have f5:=HA.out.box.cell 5 rfl
   have f6:=HA.out.box.cell 6 rfl
   have f7:=HA.out.box.cell 7 rfl
   have f8:=HA.out.box.cell 8 rfl
   have fl:=HA.out.box.lt
   have HA5b:=qd (HA.out.kept (oneb w5 (.cells #[.int .u32 z.num,.int .u32 z.arch,.int .u64 z.at_,.int .u64 z.a0,.int .u64 z.a1,.int .u64 z.a2,.int .u64 z.a3,.int .u64 z.a4,.int .u64 z.a5] 60)))
   have HC5b:=qd (HC.out.kept (oneb w5 (.cells #[.int .u32 z.num,.int .u32 z.arch,.int .u64 z.at_,.int .u64 z.a0,.int .u64 z.a1,.int .u64 z.a2,.int .u64 z.a3,.int .u64 z.a4,.int .u64 z.a5] 60)))
   have HTy:=qd (own_ty HA5b.out.row)
   go_wp2_with (at_builtin;refine append_one rfl (.tmp 32) (.tmp 34) 36 60 rfl _ 9 64 infoRec Tryz.underlying36 rfl (by decide) (by decide) w.heap.size _ s.length (s.flatMap RcM.cells) rfl HA5b.out.row w5.heap.size [.int .u32 z.num,.int .u32 z.arch,.int .u64 z.at_,.int .u64 z.a0,.int .u64 z.a1,.int .u64 z.a2,.int .u64 z.a3,.int .u64 z.a4,.int .u64 z.a5] rfl rfl (Bk.new w5 _ _ rfl) (rec_one z) (by omega) HA5b.out.bel.size ?_;intro v' w6 hown hgrow hv6;have HA6:=qd (HA5b.out.more1 (z:=z) hown hgrow hv6);have HC6:=qd (bk_app HC5b.out hgrow HTy.out);clear f0 f1 f2 f3 f4 f5 f6 f7 f8 fl hown hgrow hv6;obtain ⟨A7,c7,hv7⟩:=HA6.out.slice;obtain ⟨n7,hn7⟩:∃n7,n7=(s++[z]).length:=⟨_,rfl⟩;rw [←hn7] at hv7;subst hv7;have HN7:=qd hn7;clear hn7)
   rw [HN7.out] at HA6
   go_roundw
   case rel=>exact ⟨3,s++[z],z,A7,c7,rfl,by rw [HN7.out],by omega,by simp [hli],HA6,HYz,HC6,HSz⟩
   case measure=>simp [intOf]
  ·have hix:∀W:World,(Instr.index 238 (.agg #[.int .u64 n0,.int .u64 n1,.int .u64 n2,.int .u64 n3,.int .u64 0]) (.int .i64 3)).run Tryz.prog W=.ok (.int .u64 n3) W:=fun W=>by kernel_rfl
   go_upto_region 6 with fail
   have hn:=HA.out.set (n:=n3) hk6
   rw [HY.out n3] at hn
   have hc:=HC.out.grown (only_set wz xb (3+k) (.int .u64 ((n3:Nat):Int))) (fun e=>HXab.out.1 (Option.some.inj e))
   obtain ⟨z,hz⟩:∃z,z=setA x k n3:=⟨_,rfl⟩
   rw [←hz] at hn
   have HYz:=qd (show ∀v,setA z k v=setA x k v from fun v=>by rw [hz];exact setA_twice x k n3 v)
   have HSz:=qd (show s++[z]=[setA x k n0,setA x k n1,setA x k n2,setA x k n3,setA x k 0].take 4 by rw [HS.out,hz];rfl)
   clear f3 fz fl y0 yl hz HA HC hix
   have HA:=qd hn
   have HC:=qd hc
   clear hn hc
   generalize World.setCell wz _ _=w5 at HA HC ⊢
   have f0:=HA.out.box.cell 0 rfl
   have f1:=HA.out.box.cell 1 rfl
   have f2:=HA.out.box.cell 2 rfl
   have f3:=HA.out.box.cell 3 rfl
   have f4:=HA.out.box.cell 4 rfl
   have f5:=HA.out.box.cell 5 rfl
   have f6:=HA.out.box.cell 6 rfl
   have f7:=HA.out.box.cell 7 rfl
   have f8:=HA.out.box.cell 8 rfl
   have fl:=HA.out.box.lt
   have HA5b:=qd (HA.out.kept (oneb w5 (.cells #[.int .u32 z.num,.int .u32 z.arch,.int .u64 z.at_,.int .u64 z.a0,.int .u64 z.a1,.int .u64 z.a2,.int .u64 z.a3,.int .u64 z.a4,.int .u64 z.a5] 60)))
   have HC5b:=qd (HC.out.kept (oneb w5 (.cells #[.int .u32 z.num,.int .u32 z.arch,.int .u64 z.at_,.int .u64 z.a0,.int .u64 z.a1,.int .u64 z.a2,.int .u64 z.a3,.int .u64 z.a4,.int .u64 z.a5] 60)))
   have HTy:=qd (own_ty HA5b.out.row)
   go_wp2_with (at_builtin;refine append_one rfl (.tmp 32) (.tmp 34) 36 60 rfl _ 9 64 infoRec Tryz.underlying36 rfl (by decide) (by decide) w.heap.size _ s.length (s.flatMap RcM.cells) rfl HA5b.out.row w5.heap.size [.int .u32 z.num,.int .u32 z.arch,.int .u64 z.at_,.int .u64 z.a0,.int .u64 z.a1,.int .u64 z.a2,.int .u64 z.a3,.int .u64 z.a4,.int .u64 z.a5] rfl rfl (Bk.new w5 _ _ rfl) (rec_one z) (by omega) HA5b.out.bel.size ?_;intro v' w6 hown hgrow hv6;have HA6:=qd (HA5b.out.more1 (z:=z) hown hgrow hv6);have HC6:=qd (bk_app HC5b.out hgrow HTy.out);clear f0 f1 f2 f3 f4 f5 f6 f7 f8 fl hown hgrow hv6;obtain ⟨A7,c7,hv7⟩:=HA6.out.slice;obtain ⟨n7,hn7⟩:∃n7,n7=(s++[z]).length:=⟨_,rfl⟩;rw [←hn7] at hv7;subst hv7;have HN7:=qd hn7;clear hn7)
   rw [HN7.out] at HA6
   go_roundw
   case rel=>exact ⟨4,s++[z],z,A7,c7,rfl,by rw [HN7.out],by omega,by simp [hli],HA6,HYz,HC6,HSz⟩
   case measure=>simp [intOf]
  ·have hix:∀W:World,(Instr.index 238 (.agg #[.int .u64 n0,.int .u64 n1,.int .u64 n2,.int .u64 n3,.int .u64 0]) (.int .i64 4)).run Tryz.prog W=.ok (.int .u64 0) W:=fun W=>by kernel_rfl
   go_upto_region 6 with fail
   have hn:=HA.out.set (n:=0) hk6
   rw [HY.out 0] at hn
   have hc:=HC.out.grown (only_set wz xb (3+k) (.int .u64 ((0:Nat):Int))) (fun e=>HXab.out.1 (Option.some.inj e))
   obtain ⟨z,hz⟩:∃z,z=setA x k 0:=⟨_,rfl⟩
   rw [←hz] at hn
   have HYz:=qd (show ∀v,setA z k v=setA x k v from fun v=>by rw [hz];exact setA_twice x k 0 v)
   have HSz:=qd (show s++[z]=[setA x k n0,setA x k n1,setA x k n2,setA x k n3,setA x k 0].take 5 by rw [HS.out,hz];rfl)
   clear f3 fz fl y0 yl hz HA HC hix
   have HA:=qd hn
   have HC:=qd hc
   clear hn hc
   generalize World.setCell wz _ _=w5 at HA HC ⊢
   have f0:=HA.out.box.cell 0 rfl
   have f1:=HA.out.box.cell 1 rfl
   have f2:=HA.out.box.cell 2 rfl
   have f3:=HA.out.box.cell 3 rfl
   have f4:=HA.out.box.cell 4 rfl
   have f5:=HA.out.box.cell 5 rfl
   have f6:=HA.out.box.cell 6 rfl
   have f7:=HA.out.box.cell 7 rfl
   have f8:=HA.out.box.cell 8 rfl
   have fl:=HA.out.box.lt
   have HA5b:=qd (HA.out.kept (oneb w5 (.cells #[.int .u32 z.num,.int .u32 z.arch,.int .u64 z.at_,.int .u64 z.a0,.int .u64 z.a1,.int .u64 z.a2,.int .u64 z.a3,.int .u64 z.a4,.int .u64 z.a5] 60)))
   have HC5b:=qd (HC.out.kept (oneb w5 (.cells #[.int .u32 z.num,.int .u32 z.arch,.int .u64 z.at_,.int .u64 z.a0,.int .u64 z.a1,.int .u64 z.a2,.int .u64 z.a3,.int .u64 z.a4,.int .u64 z.a5] 60)))
   have HTy:=qd (own_ty HA5b.out.row)
   go_wp2_with (at_builtin;refine append_one rfl (.tmp 32) (.tmp 34) 36 60 rfl _ 9 64 infoRec Tryz.underlying36 rfl (by decide) (by decide) w.heap.size _ s.length (s.flatMap RcM.cells) rfl HA5b.out.row w5.heap.size [.int .u32 z.num,.int .u32 z.arch,.int .u64 z.at_,.int .u64 z.a0,.int .u64 z.a1,.int .u64 z.a2,.int .u64 z.a3,.int .u64 z.a4,.int .u64 z.a5] rfl rfl (Bk.new w5 _ _ rfl) (rec_one z) (by omega) HA5b.out.bel.size ?_;intro v' w6 hown hgrow hv6;have HA6:=qd (HA5b.out.more1 (z:=z) hown hgrow hv6);have HC6:=qd (bk_app HC5b.out hgrow HTy.out);clear f0 f1 f2 f3 f4 f5 f6 f7 f8 fl hown hgrow hv6;obtain ⟨A7,c7,hv7⟩:=HA6.out.slice;obtain ⟨n7,hn7⟩:∃n7,n7=(s++[z]).length:=⟨_,rfl⟩;rw [←hn7] at hv7;subst hv7;have HN7:=qd hn7;clear hn7)
   rw [HN7.out] at HA6
   go_roundw
   case rel=>exact ⟨5,s++[z],z,A7,c7,rfl,by rw [HN7.out],by omega,by simp [hli],HA6,HYz,HC6,HSz⟩
   case measure=>simp [intOf]
end Go.Proofs.YtcnebdjhhfnmoaaGreatDoor.Co
