/- The machine in memory: its cells; what it is asked, what it does: the small ones. -/
import Derived.Test.YtcnebdjhhfnmoaaGreatDoorL12
import Derived.Test.YtcnebdjhhfnmoaaGreatDoorL01
import Derived.Test.YtcnebdjhhfnmoaaGreatDoorL25
import Derived.Laws.ShiftsVarLaws
import Derived.Laws.BitsAllLaws
import Derived.Test.YtcnebdjhhfnmoaaGreatDoorL02
import Derived.Deep.RegionHeld3
import Derived.Deep.QuietTactic
import Derived.BigQuiet
import Derived.Test.YtcnebdjhhfnmoaaGreatDoorL16
import Derived.StillTailTactics
import Derived.Deep.RegionWith
import Derived.BigRegion
import Derived.IntWalk
import Derived.Laws.LoneSync
import Derived.OwnWalk
import Derived.ChangeKeysEq
import Derived.Laws.StructEq
set_option maxHeartbeats 32000000
set_option maxRecDepth 100000
namespace Go.Proofs.YtcnebdjhhfnmoaaGreatDoor
open Go.RowKit
theorem clearLow (n:Nat)(h:n<65536):n&&&(65535-n%8)=n / 8*8:=by
 have h1:=Nat.and_div_two_pow (a:=n) (b:=65535-n%8) (n:=3)
 have h2:=Nat.and_mod_two_pow (a:=n) (b:=65535-n%8) (n:=3)
 simp only [Nat.reducePow] at h1 h2
 have e0:(65535-n%8) / 8=8191:=by omega
 have e1:=Nat.and_two_pow_sub_one_eq_mod (n / 8) 13
 simp only [Nat.reducePow,Nat.reduceSub] at e1
 rw [e0,e1] at h1
 have e3:n%8&&&(65535-n%8)%8=0:=by
  rcases (by omega:n%8=0∨n%8=1∨n%8=2∨n%8=3∨n%8=4∨n%8=5∨n%8=6∨n%8=7) with e|e|e|e|e|e|e|e<;>(rw [e];rfl)
 rw [e3] at h2
 omega
theorem kind_of (n:Nat)(h:n<65536):bits .andNot .u16 (bits .andNot .u16 (n:Int) ((n%8:Nat):Int)) 8=((n / 16*16:Nat):Int):=by
 rw [u16_andNot_nat n (n%8) h (by omega),clearLow n h,andNot8 _ (by omega)]
 omega
theorem kind_any (n q:Nat)(w:World)(h:n<65536)(hq:n / 16*16=q):Calls Tryz.prog 157 #[.int .u16 n] w fun e w'=>e=.returned (.int .u16 (q:Int))∧w=w':=by
 have Hk:=qd (kind_of n h)
 have Hc:=qd (class_any n w h)
 subst hq
 obtain ⟨r,hr⟩:∃r:Nat,r=n%8:=⟨_,rfl⟩
 rw [←hr] at Hk Hc
 clear hr
 go_enter Tryz.func157,Tryz.ntmps157
 go_wp2_with (go_at_call 42;refine Hc.out.mono ?_;rintro e w' ⟨rfl,rfl⟩)
 go_ret
 exact ⟨ret_int Hk.out,rfl⟩
def mac (R:List Value)(s:Mc)(e:Bool)(y:Nat):List Value:=R++(.int .u32 s.a::.int .u32 s.x::(u32s s.m++[.int .i64 s.nx,.bool e,.int .u32 y]))
section
variable {R:List Value} {s:Mc} {e:Bool} {y:Nat}
theorem mac_a (hR:R.length=9):(mac R s e y)[9]?=some (.int .u32 s.a):=by unfold mac;rw [List.getElem?_append_right (by omega),hR];rfl
theorem mac_x (hR:R.length=9):(mac R s e y)[10]?=some (.int .u32 s.x):=by unfold mac;rw [List.getElem?_append_right (by omega),hR];rfl
theorem mac_m (hR:R.length=9)(hm:s.m.length=16){j:Nat}(hj:j<16):(mac R s e y)[11+j]?=some (.int .u32 (s.m.getD j 0:Nat)):=by
 unfold mac
 rw [List.getElem?_append_right (by omega),hR,show 11+j-9=j+1+1 by omega,List.getElem?_cons_succ,List.getElem?_cons_succ,List.getElem?_append_left (by simp [u32s,hm];omega)]
 simp [u32s,List.getD_eq_getElem?_getD,List.getElem?_eq_getElem (show j<s.m.length by omega)]
theorem mac_n (hR:R.length=9)(hm:s.m.length=16):(mac R s e y)[27]?=some (.int .i64 s.nx):=by
 unfold mac
 rw [List.getElem?_append_right (by omega),hR,show 27-9=16+1+1 by omega,List.getElem?_cons_succ,List.getElem?_cons_succ,List.getElem?_append_right (by simp [u32s,hm])]
 simp [u32s,hm]
theorem mac_e (hR:R.length=9)(hm:s.m.length=16):(mac R s e y)[28]?=some (.bool e):=by
 unfold mac
 rw [List.getElem?_append_right (by omega),hR,show 28-9=17+1+1 by omega,List.getElem?_cons_succ,List.getElem?_cons_succ,List.getElem?_append_right (by simp [u32s,hm])]
 simp [u32s,hm]
theorem mac_y (hR:R.length=9)(hm:s.m.length=16):(mac R s e y)[29]?=some (.int .u32 y):=by
 unfold mac
 rw [List.getElem?_append_right (by omega),hR,show 29-9=18+1+1 by omega,List.getElem?_cons_succ,List.getElem?_cons_succ,List.getElem?_append_right (by simp [u32s,hm])]
 simp [u32s,hm]
theorem set_a (hR:R.length=9)(v:Nat):(mac R s e y).set 9 (.int .u32 v)=mac R { s with a:=v } e y:=by
 unfold mac;rw [List.set_append_right _ _ (by omega),hR];rfl
theorem set_x (hR:R.length=9)(v:Nat):(mac R s e y).set 10 (.int .u32 v)=mac R { s with x:=v } e y:=by
 unfold mac;rw [List.set_append_right _ _ (by omega),hR];rfl
theorem set_m (hR:R.length=9)(hm:s.m.length=16){j:Nat}(hj:j<16)(v:Nat):(mac R s e y).set (11+j) (.int .u32 v)=mac R { s with m:=s.m.set j v } e y:=by
 unfold mac
 rw [List.set_append_right _ _ (by omega),hR,show 11+j-9=j+1+1 by omega,List.set_cons_succ,List.set_cons_succ,List.set_append_left _ _ (by simp [u32s,hm];omega)]
 simp [u32s,List.map_set]
theorem set_n (hR:R.length=9)(hm:s.m.length=16)(v:Nat):(mac R s e y).set 27 (.int .i64 v)=mac R { s with nx:=v } e y:=by
 unfold mac
 rw [List.set_append_right _ _ (by omega),hR,show 27-9=16+1+1 by omega,List.set_cons_succ,List.set_cons_succ,List.set_append_right _ _ (by simp [u32s,hm])]
 simp [u32s,hm]
theorem set_e (hR:R.length=9)(hm:s.m.length=16)(v:Bool):(mac R s e y).set 28 (.bool v)=mac R s v y:=by
 unfold mac
 rw [List.set_append_right _ _ (by omega),hR,show 28-9=17+1+1 by omega,List.set_cons_succ,List.set_cons_succ,List.set_append_right _ _ (by simp [u32s,hm])]
 simp [u32s,hm]
theorem set_y (hR:R.length=9)(hm:s.m.length=16)(v:Nat):(mac R s e y).set 29 (.int .u32 v)=mac R s e v:=by
 unfold mac
 rw [List.set_append_right _ _ (by omega),hR,show 29-9=18+1+1 by omega,List.set_cons_succ,List.set_cons_succ,List.set_append_right _ _ (by simp [u32s,hm])]
 simp [u32s,hm]
end
structure Mach (w:World)(g:Nat)(R:List Value)(s:Mc)(e:Bool)(y:Nat):Prop where
 r:R.length=9
 m:s.m.length=16
 b:Bk w g 202 (mac R s e y)
section
variable {w w':World} {g:Nat} {R:List Value} {s:Mc} {e:Bool} {y:Nat}
theorem Mach.lt (h:Mach w g R s e y):g<w.heap.size:=h.b.lt
theorem Mach.ca (h:Mach w g R s e y):w.cell? ⟨g,9,none⟩=some (.int .u32 s.a):=h.b.cell 9 (mac_a h.r)
theorem Mach.cx (h:Mach w g R s e y):w.cell? ⟨g,10,none⟩=some (.int .u32 s.x):=h.b.cell 10 (mac_x h.r)
theorem Mach.cm (h:Mach w g R s e y){j:Nat}(hj:j<16):w.cell? ⟨g,11+j,none⟩=some (.int .u32 (s.m.getD j 0:Nat)):=h.b.cell _ (mac_m h.r h.m hj)
theorem Mach.cn (h:Mach w g R s e y):w.cell? ⟨g,27,none⟩=some (.int .i64 s.nx):=h.b.cell 27 (mac_n h.r h.m)
theorem Mach.ce (h:Mach w g R s e y):w.cell? ⟨g,28,none⟩=some (.bool e):=h.b.cell 28 (mac_e h.r h.m)
theorem Mach.cy (h:Mach w g R s e y):w.cell? ⟨g,29,none⟩=some (.int .u32 y):=h.b.cell 29 (mac_y h.r h.m)
theorem Mach.kept (h:Mach w g R s e y)(hb:Below w.heap.size w w'):Mach w' g R s e y:=⟨h.r,h.m,h.b.kept hb⟩
theorem Mach.drew (h:Mach w g R s e y):Mach w.drew g R s e y:=⟨h.r,h.m,h.b.drew⟩
theorem Mach.alloc (h:Mach w g R s e y)(o:Obj):Mach (w.alloc o) g R s e y:=⟨h.r,h.m,h.b.alloc o⟩
theorem Mach.sa (h:Mach w g R s e y)(v:Nat):Mach (w.setCell ⟨g,9,none⟩ (.int .u32 v)) g R { s with a:=v } e y:=⟨h.r,h.m,set_a h.r v▸h.b.set 9 _⟩
theorem Mach.sx (h:Mach w g R s e y)(v:Nat):Mach (w.setCell ⟨g,10,none⟩ (.int .u32 v)) g R { s with x:=v } e y:=⟨h.r,h.m,set_x h.r v▸h.b.set 10 _⟩
theorem Mach.sm (h:Mach w g R s e y){j:Nat}(hj:j<16)(v:Nat):Mach (w.setCell ⟨g,11+j,none⟩ (.int .u32 v)) g R { s with m:=s.m.set j v } e y:=⟨h.r,by simp [h.m],set_m h.r h.m hj v▸h.b.set _ _⟩
theorem Mach.sn (h:Mach w g R s e y)(v:Nat):Mach (w.setCell ⟨g,27,none⟩ (.int .i64 v)) g R { s with nx:=v } e y:=⟨h.r,h.m,set_n h.r h.m v▸h.b.set 27 _⟩
theorem Mach.se (h:Mach w g R s e y)(v:Bool):Mach (w.setCell ⟨g,28,none⟩ (.bool v)) g R s v y:=⟨h.r,h.m,set_e h.r h.m v▸h.b.set 28 _⟩
theorem Mach.sy (h:Mach w g R s e y)(v:Nat):Mach (w.setCell ⟨g,29,none⟩ (.int .u32 v)) g R s e v:=⟨h.r,h.m,set_y h.r h.m v▸h.b.set 29 _⟩
end
theorem only_alloc (w:World)(g:Nat)(o:Obj):w.grownBy (w.alloc o) (some g):=⟨rfl,rfl,rfl,by simp,fun i hi _=>Below.heap_alloc w o i hi⟩
theorem only_drew (w:World)(g:Nat):w.grownBy w.drew (some g):=⟨rfl,rfl,rfl,Nat.le_refl _,fun _ _ _=>rfl⟩
theorem only_of {w w':World}(h:Below w.heap.size w w')(g:Nat):w.grownBy w' (some g):=⟨h.os,h.tape,h.output,h.size,fun i hi _=>h.block i hi⟩
def MachTo (w:World)(g:Nat)(R:List Value)(s:Mc)(e:Bool)(y:Nat)(en:Ending)(w':World):Prop:=en=.returned (.tuple #[])∧Mach w' g R s e y∧w.grownBy w' (some g)
theorem end_any (g:Nat)(R:List Value)(s:Mc)(e:Bool)(y v:Nat)(w:World)(h:Mach w g R s e y):Calls Tryz.prog 128 #[.pointer (some ⟨g,0,none⟩),.int .u32 v] w (MachTo w g R s true v):=by
 have c1:=h.ce
 have c2:=h.cy
 have f1:=h.b.fz 28
 have f2:=h.b.fz 29
 have H:=qd ((h.se true).sy v)
 have H2:=qd (only_trans (only_set w g 28 (.bool true)) (only_set _ g 29 (.int .u32 v)))
 clear h
 go_enter Tryz.func128,Tryz.ntmps128
 go_wp2_with fail
 go_end0
 exact ⟨rfl,H.out,H2.out⟩
theorem and8 (c:Nat):c&&&8=8*(c / 8%2):=by
 have h1:=Nat.and_div_two_pow (a:=c) (b:=8) (n:=3)
 have h2:=Nat.and_mod_two_pow (a:=c) (b:=8) (n:=3)
 simp only [Nat.reducePow,Nat.reduceDiv,Nat.reduceMod,Nat.and_zero,Nat.and_one_is_mod] at h1 h2
 omega
theorem operand_any (g:Nat)(R:List Value)(s:Mc)(e:Bool)(y:Nat)(i:Ins)(w:World)(h:Mach w g R s e y)(hc:i.c<65536) :
  Calls Tryz.prog 159 #[.pointer (some ⟨g,0,none⟩),.agg #[.int .u16 i.c,.int .u8 i.t,.int .u8 i.f,.int .u32 i.k]] w (OneN .u32 (opd i s) w):=by
 have hb:=u16_and_nat i.c 8 hc (by omega)
 rw [and8 _] at hb
 have hgl:=h.lt
 have cx:=h.cx
 have Ho:=qd (show opd i s=if i.c / 8%2=1 then s.x else i.k from rfl)
 obtain ⟨c,t,f,k⟩:=i
 obtain ⟨a,x,m,nx⟩:=s
 dsimp only at *
 by_cases h8:c / 8%2=1
 ·have b1:bits .and .u16 (c:Int) 8=8:=by rw [h8] at hb;exact hb
  have e1:opd ⟨c,t,f,k⟩ ⟨a,x,m,nx⟩=x:=by rw [Ho.out,if_pos h8]
  rw [e1]
  clear e1 hb Ho h8 h hc
  go_enter Tryz.func159,Tryz.ntmps159
  go_wp2_with fail
  go_ret
  exact ⟨rfl,one_below _ _⟩
 ·have b1:bits .and .u16 (c:Int) 8=0:=by rw [show c / 8%2=0 by omega] at hb;exact hb
  have e1:opd ⟨c,t,f,k⟩ ⟨a,x,m,nx⟩=k:=by rw [Ho.out,if_neg h8]
  rw [e1]
  clear e1 hb Ho h8
  go_enter Tryz.func159,Tryz.ntmps159
  go_wp2_with fail
  go_ret
  exact ⟨rfl,one_below _ _⟩
theorem div_cast (a n:Nat):(a:Int) / (n:Int)=((a / n:Nat):Int):=by simp
theorem divide_any (g:Nat)(R:List Value)(s:Mc)(e:Bool)(y n:Nat)(w:World)(h:Mach w g R s e y)(hn:n<4294967296)(ha:s.a<4294967296) :
  Calls Tryz.prog 160 #[.pointer (some ⟨g,0,none⟩),.int .u32 n] w (if n=0 then MachTo w g R s true 0 else MachTo w g R { s with a:=s.a / n } e y):=by
 by_cases h0:n=0
 ·subst h0
  rw [if_pos rfl]
  have He:=qd (end_any g R s e y 0 w h)
  clear h ha hn
  go_enter Tryz.func160,Tryz.ntmps160
  go_wp2_with fail
  refine He.out.mono ?_
  rintro e1 w1 ⟨rfl,h1,h2⟩
  have H1:=qd h1
  have H2:=qd h2
  clear h1 h2
  go_wp2_with fail
  go_end0
  exact ⟨rfl,H1.out,H2.out⟩
 ·rw [if_neg h0]
  have b1:((n:Int)==0)=false:=by simp;omega
  have ca:=h.ca
  have fa:=h.b.fz 9
  have H:=qd (h.sa (s.a / n))
  have H2:=qd (only_set w g 9 (.int .u32 ((s.a / n:Nat):Int)))
  have hq:=div_cast s.a n
  obtain ⟨a,x,m,nx⟩:=s
  dsimp only at *
  obtain ⟨q,hqd⟩:∃q:Nat,q=a / n:=⟨_,rfl⟩
  have hn0:0<n:=by omega
  have hql:q≤a:=hqd▸Nat.div_le_self _ _
  rw [←hqd] at H H2 hq ⊢
  clear h hqd h0
  go_enter Tryz.func160,Tryz.ntmps160
  go_wp2_with fail
  go_end0
  exact ⟨rfl,H.out,H2.out⟩
theorem hand_any (g:Nat)(R:List Value)(s:Mc)(e:Bool)(y:Nat)(i:Ins)(w:World)(h:Mach w g R s e y)(hc:i.c<65536)(hk:i.c=7∨i.c=135) :
  Calls Tryz.prog 130 #[.pointer (some ⟨g,0,none⟩),.agg #[.int .u16 i.c,.int .u8 i.t,.int .u8 i.f,.int .u32 i.k]] w (MachTo w g R (if i.c=7 then { s with x:=s.a } else { s with a:=s.x }) e y):=by
 have hgl:=h.lt
 have cx:=h.cx
 have ca:=h.ca
 have fa:=h.b.fz 9
 have fx:=h.b.fz 10
 obtain ⟨c,t,f,k⟩:=i
 obtain ⟨a,x,m,nx⟩:=s
 dsimp only at *
 rcases hk with hk|hk
 ·rw [if_pos hk]
  have Kd:=qd (fun w=>kind_any c 0 w hc (by omega))
  have H:=qd ((h.sx a).alloc (.cells #[.int .u16 c,.int .u8 t,.int .u8 f,.int .u32 k] 76))
  have H2:=qd (only_trans (only_set w g 10 (.int .u32 (a:Int))) (only_alloc _ g (.cells #[.int .u16 c,.int .u8 t,.int .u8 f,.int .u32 k] 76)))
  clear h hk hc
  go_enter Tryz.func130,Tryz.ntmps130
  go_wp2_with (go_at_call 157;refine (Kd.out _).mono ?_;rintro e w' ⟨rfl,rfl⟩)
  go_end0
  exact ⟨rfl,H.out,H2.out⟩
 ·rw [if_neg (by omega)]
  have Kd:=qd (fun w=>kind_any c 128 w hc (by omega))
  have H:=qd ((h.sa x).alloc (.cells #[.int .u16 c,.int .u8 t,.int .u8 f,.int .u32 k] 76))
  have H2:=qd (only_trans (only_set w g 9 (.int .u32 (x:Int))) (only_alloc _ g (.cells #[.int .u16 c,.int .u8 t,.int .u8 f,.int .u32 k] 76)))
  clear h hk hc
  go_enter Tryz.func130,Tryz.ntmps130
  go_wp2_with (go_at_call 157;refine (Kd.out _).mono ?_;rintro e w' ⟨rfl,rfl⟩)
  go_end0
  exact ⟨rfl,H.out,H2.out⟩
theorem answer_any (g:Nat)(R:List Value)(s:Mc)(e:Bool)(y:Nat)(i:Ins)(w:World)(h:Mach w g R s e y)(hk:i.c=6∨i.c=22) :
  Calls Tryz.prog 129 #[.pointer (some ⟨g,0,none⟩),.agg #[.int .u16 i.c,.int .u8 i.t,.int .u8 i.f,.int .u32 i.k]] w (OneN .u32 (if i.c=22 then s.a else i.k) w):=by
 have hgl:=h.lt
 have ca:=h.ca
 obtain ⟨c,t,f,k⟩:=i
 obtain ⟨a,x,m,nx⟩:=s
 dsimp only at *
 rcases hk with hk|hk
 ·rw [if_neg (by omega)]
  have Kd:=qd (fun w=>kind_any c 0 w (by omega) (by omega))
  clear hk
  go_enter Tryz.func129,Tryz.ntmps129
  go_wp2_with (go_at_call 157;refine (Kd.out _).mono ?_;rintro e w' ⟨rfl,rfl⟩)
  go_ret
  exact ⟨rfl,one_below _ _⟩
 ·rw [if_pos hk]
  have Kd:=qd (fun w=>kind_any c 16 w (by omega) (by omega))
  clear hk
  go_enter Tryz.func129,Tryz.ntmps129
  go_wp2_with (go_at_call 157;refine (Kd.out _).mono ?_;rintro e w' ⟨rfl,rfl⟩)
  go_ret
  exact ⟨rfl,one_below _ _⟩
end Go.Proofs.YtcnebdjhhfnmoaaGreatDoor
namespace Go.Proofs.YtcnebdjhhfnmoaaGreatDoor
open Go.RowKit
theorem reckon_0 (g:Nat)(R:List Value)(s:Mc)(e:Bool)(y:Nat)(i:Ins)(w:World)(h:Mach w g R s e y)(hs:s.ok)(hi:i.ok)(hop:i.c / 16=0) :
  Calls Tryz.prog 126 #[.pointer (some ⟨g,0,none⟩),.agg #[.int .u16 i.c,.int .u8 i.t,.int .u8 i.f,.int .u32 i.k]] w (MachTo w g R { s with a:=reckN 0 s.a (opd i s) } e y):=by
 have hgl:=h.lt
 have ha:=hs.a
 have hn:=opd_lt hs hi.2.2.2
 have Od:=qd (fun w h=>operand_any g R s e y i w h hi.1)
 have Kd:=qd (fun w=>kind_any i.c 0 w hi.1 (by omega))
 have H:=qd h
 obtain ⟨c,t,f,k⟩:=i
 obtain ⟨n,hnd⟩:∃n,n=opd ⟨c,t,f,k⟩ s:=⟨_,rfl⟩
 rw [←hnd] at Od hn ⊢
 obtain ⟨a,x,m,nx⟩:=s
 dsimp only at *
 have hv:((a:Int)+(n:Int))%4294967296=((reckN 0 a n:Nat):Int):=by simp [reckN]
 obtain ⟨v,hvd⟩:∃v,v=reckN 0 a n:=⟨_,rfl⟩
 rw [←hvd] at hv ⊢
 clear hnd hvd hop hi hs h
 go_enter Tryz.func126,Tryz.ntmps126
 go_wp2_with fail
 refine (Od.out _ (H.out.alloc _)).mono ?_
 rintro e1 w1 ⟨rfl,hb1⟩
 have HM:=qd ((H.out.alloc _).kept hb1)
 have HB:=qd ((one_below w _).trans (hb1.mono (by simp)))
 have q0:w1.cell? ⟨w.heap.size,0,none⟩=some (.int .u16 c):=by rw [hb1.cell (p:=⟨w.heap.size,0,none⟩) (by simp)];simp
 have ca:=HM.out.ca
 have fa:=HM.out.b.fz 9
 have HE:=qd (HM.out.sa v)
 have HG:=qd (only_trans (only_of HB.out g) (only_set w1 g 9 (.int .u32 v)))
 dsimp only at ca
 clear hb1
 go_wp2_with (go_at_call 157;refine (Kd.out _).mono ?_;rintro e2 w2 ⟨rfl,rfl⟩)
 go_end0
 exact ⟨rfl,HE.out,HG.out⟩
theorem reckon_1 (g:Nat)(R:List Value)(s:Mc)(e:Bool)(y:Nat)(i:Ins)(w:World)(h:Mach w g R s e y)(hs:s.ok)(hi:i.ok)(hop:i.c / 16=1) :
  Calls Tryz.prog 126 #[.pointer (some ⟨g,0,none⟩),.agg #[.int .u16 i.c,.int .u8 i.t,.int .u8 i.f,.int .u32 i.k]] w (MachTo w g R { s with a:=reckN 1 s.a (opd i s) } e y):=by
 have hgl:=h.lt
 have ha:=hs.a
 have hn:=opd_lt hs hi.2.2.2
 have Od:=qd (fun w h=>operand_any g R s e y i w h hi.1)
 have Kd:=qd (fun w=>kind_any i.c 16 w hi.1 (by omega))
 have H:=qd h
 obtain ⟨c,t,f,k⟩:=i
 obtain ⟨n,hnd⟩:∃n,n=opd ⟨c,t,f,k⟩ s:=⟨_,rfl⟩
 rw [←hnd] at Od hn ⊢
 obtain ⟨a,x,m,nx⟩:=s
 dsimp only at *
 have hv:((a:Int)-(n:Int))%4294967296=((reckN 1 a n:Nat):Int):=by simp [reckN];omega
 obtain ⟨v,hvd⟩:∃v,v=reckN 1 a n:=⟨_,rfl⟩
 rw [←hvd] at hv ⊢
 clear hnd hvd hop hi hs h
 go_enter Tryz.func126,Tryz.ntmps126
 go_wp2_with fail
 refine (Od.out _ (H.out.alloc _)).mono ?_
 rintro e1 w1 ⟨rfl,hb1⟩
 have HM:=qd ((H.out.alloc _).kept hb1)
 have HB:=qd ((one_below w _).trans (hb1.mono (by simp)))
 have q0:w1.cell? ⟨w.heap.size,0,none⟩=some (.int .u16 c):=by rw [hb1.cell (p:=⟨w.heap.size,0,none⟩) (by simp)];simp
 have ca:=HM.out.ca
 have fa:=HM.out.b.fz 9
 have HE:=qd (HM.out.sa v)
 have HG:=qd (only_trans (only_of HB.out g) (only_set w1 g 9 (.int .u32 v)))
 dsimp only at ca
 clear hb1
 go_wp2_with (go_at_call 157;refine (Kd.out _).mono ?_;rintro e2 w2 ⟨rfl,rfl⟩)
 go_end0
 exact ⟨rfl,HE.out,HG.out⟩
theorem reckon_2 (g:Nat)(R:List Value)(s:Mc)(e:Bool)(y:Nat)(i:Ins)(w:World)(h:Mach w g R s e y)(hs:s.ok)(hi:i.ok)(hop:i.c / 16=2) :
  Calls Tryz.prog 126 #[.pointer (some ⟨g,0,none⟩),.agg #[.int .u16 i.c,.int .u8 i.t,.int .u8 i.f,.int .u32 i.k]] w (MachTo w g R { s with a:=reckN 2 s.a (opd i s) } e y):=by
 have hgl:=h.lt
 have ha:=hs.a
 have hn:=opd_lt hs hi.2.2.2
 have Od:=qd (fun w h=>operand_any g R s e y i w h hi.1)
 have Kd:=qd (fun w=>kind_any i.c 32 w hi.1 (by omega))
 have H:=qd h
 obtain ⟨c,t,f,k⟩:=i
 obtain ⟨n,hnd⟩:∃n,n=opd ⟨c,t,f,k⟩ s:=⟨_,rfl⟩
 rw [←hnd] at Od hn ⊢
 obtain ⟨a,x,m,nx⟩:=s
 dsimp only at *
 have hv:((a:Int)*(n:Int))%4294967296=((reckN 2 a n:Nat):Int):=by simp [reckN]
 obtain ⟨v,hvd⟩:∃v,v=reckN 2 a n:=⟨_,rfl⟩
 rw [←hvd] at hv ⊢
 clear hnd hvd hop hi hs h
 go_enter Tryz.func126,Tryz.ntmps126
 go_wp2_with fail
 refine (Od.out _ (H.out.alloc _)).mono ?_
 rintro e1 w1 ⟨rfl,hb1⟩
 have HM:=qd ((H.out.alloc _).kept hb1)
 have HB:=qd ((one_below w _).trans (hb1.mono (by simp)))
 have q0:w1.cell? ⟨w.heap.size,0,none⟩=some (.int .u16 c):=by rw [hb1.cell (p:=⟨w.heap.size,0,none⟩) (by simp)];simp
 have ca:=HM.out.ca
 have fa:=HM.out.b.fz 9
 have HE:=qd (HM.out.sa v)
 have HG:=qd (only_trans (only_of HB.out g) (only_set w1 g 9 (.int .u32 v)))
 dsimp only at ca
 clear hb1
 go_wp2_with (go_at_call 157;refine (Kd.out _).mono ?_;rintro e2 w2 ⟨rfl,rfl⟩)
 go_end0
 exact ⟨rfl,HE.out,HG.out⟩
theorem reckon_4 (g:Nat)(R:List Value)(s:Mc)(e:Bool)(y:Nat)(i:Ins)(w:World)(h:Mach w g R s e y)(hs:s.ok)(hi:i.ok)(hop:i.c / 16=4) :
  Calls Tryz.prog 126 #[.pointer (some ⟨g,0,none⟩),.agg #[.int .u16 i.c,.int .u8 i.t,.int .u8 i.f,.int .u32 i.k]] w (MachTo w g R { s with a:=reckN 4 s.a (opd i s) } e y):=by
 have hgl:=h.lt
 have ha:=hs.a
 have hn:=opd_lt hs hi.2.2.2
 have Od:=qd (fun w h=>operand_any g R s e y i w h hi.1)
 have Kd:=qd (fun w=>kind_any i.c 64 w hi.1 (by omega))
 have H:=qd h
 obtain ⟨c,t,f,k⟩:=i
 obtain ⟨n,hnd⟩:∃n,n=opd ⟨c,t,f,k⟩ s:=⟨_,rfl⟩
 rw [←hnd] at Od hn ⊢
 obtain ⟨a,x,m,nx⟩:=s
 dsimp only at *
 have hv:bits .or .u32 (a:Int) (n:Int)=((reckN 4 a n:Nat):Int):=by rw [u32_or_nat a n ha hn];simp [reckN]
 obtain ⟨v,hvd⟩:∃v,v=reckN 4 a n:=⟨_,rfl⟩
 rw [←hvd] at hv ⊢
 clear hnd hvd hop hi hs h
 go_enter Tryz.func126,Tryz.ntmps126
 go_wp2_with fail
 refine (Od.out _ (H.out.alloc _)).mono ?_
 rintro e1 w1 ⟨rfl,hb1⟩
 have HM:=qd ((H.out.alloc _).kept hb1)
 have HB:=qd ((one_below w _).trans (hb1.mono (by simp)))
 have q0:w1.cell? ⟨w.heap.size,0,none⟩=some (.int .u16 c):=by rw [hb1.cell (p:=⟨w.heap.size,0,none⟩) (by simp)];simp
 have ca:=HM.out.ca
 have fa:=HM.out.b.fz 9
 have HE:=qd (HM.out.sa v)
 have HG:=qd (only_trans (only_of HB.out g) (only_set w1 g 9 (.int .u32 v)))
 dsimp only at ca
 clear hb1
 go_wp2_with (go_at_call 157;refine (Kd.out _).mono ?_;rintro e2 w2 ⟨rfl,rfl⟩)
 go_end0
 exact ⟨rfl,HE.out,HG.out⟩
theorem reckon_5 (g:Nat)(R:List Value)(s:Mc)(e:Bool)(y:Nat)(i:Ins)(w:World)(h:Mach w g R s e y)(hs:s.ok)(hi:i.ok)(hop:i.c / 16=5) :
  Calls Tryz.prog 126 #[.pointer (some ⟨g,0,none⟩),.agg #[.int .u16 i.c,.int .u8 i.t,.int .u8 i.f,.int .u32 i.k]] w (MachTo w g R { s with a:=reckN 5 s.a (opd i s) } e y):=by
 have hgl:=h.lt
 have ha:=hs.a
 have hn:=opd_lt hs hi.2.2.2
 have Od:=qd (fun w h=>operand_any g R s e y i w h hi.1)
 have Kd:=qd (fun w=>kind_any i.c 80 w hi.1 (by omega))
 have H:=qd h
 obtain ⟨c,t,f,k⟩:=i
 obtain ⟨n,hnd⟩:∃n,n=opd ⟨c,t,f,k⟩ s:=⟨_,rfl⟩
 rw [←hnd] at Od hn ⊢
 obtain ⟨a,x,m,nx⟩:=s
 dsimp only at *
 have hv:bits .and .u32 (a:Int) (n:Int)=((reckN 5 a n:Nat):Int):=by rw [u32_and_nat a n ha hn];simp [reckN]
 obtain ⟨v,hvd⟩:∃v,v=reckN 5 a n:=⟨_,rfl⟩
 rw [←hvd] at hv ⊢
 clear hnd hvd hop hi hs h
 go_enter Tryz.func126,Tryz.ntmps126
 go_wp2_with fail
 refine (Od.out _ (H.out.alloc _)).mono ?_
 rintro e1 w1 ⟨rfl,hb1⟩
 have HM:=qd ((H.out.alloc _).kept hb1)
 have HB:=qd ((one_below w _).trans (hb1.mono (by simp)))
 have q0:w1.cell? ⟨w.heap.size,0,none⟩=some (.int .u16 c):=by rw [hb1.cell (p:=⟨w.heap.size,0,none⟩) (by simp)];simp
 have ca:=HM.out.ca
 have fa:=HM.out.b.fz 9
 have HE:=qd (HM.out.sa v)
 have HG:=qd (only_trans (only_of HB.out g) (only_set w1 g 9 (.int .u32 v)))
 dsimp only at ca
 clear hb1
 go_wp2_with (go_at_call 157;refine (Kd.out _).mono ?_;rintro e2 w2 ⟨rfl,rfl⟩)
 go_end0
 exact ⟨rfl,HE.out,HG.out⟩
theorem reckon_10 (g:Nat)(R:List Value)(s:Mc)(e:Bool)(y:Nat)(i:Ins)(w:World)(h:Mach w g R s e y)(hs:s.ok)(hi:i.ok)(hop:i.c / 16=10) :
  Calls Tryz.prog 126 #[.pointer (some ⟨g,0,none⟩),.agg #[.int .u16 i.c,.int .u8 i.t,.int .u8 i.f,.int .u32 i.k]] w (MachTo w g R { s with a:=reckN 10 s.a (opd i s) } e y):=by
 have hgl:=h.lt
 have ha:=hs.a
 have hn:=opd_lt hs hi.2.2.2
 have Od:=qd (fun w h=>operand_any g R s e y i w h hi.1)
 have Kd:=qd (fun w=>kind_any i.c 160 w hi.1 (by omega))
 have H:=qd h
 obtain ⟨c,t,f,k⟩:=i
 obtain ⟨n,hnd⟩:∃n,n=opd ⟨c,t,f,k⟩ s:=⟨_,rfl⟩
 rw [←hnd] at Od hn ⊢
 obtain ⟨a,x,m,nx⟩:=s
 dsimp only at *
 have hv:bits .xor .u32 (a:Int) (n:Int)=((reckN 10 a n:Nat):Int):=by rw [u32_xor_nat a n ha hn];simp [reckN]
 obtain ⟨v,hvd⟩:∃v,v=reckN 10 a n:=⟨_,rfl⟩
 rw [←hvd] at hv ⊢
 clear hnd hvd hop hi hs h
 go_enter Tryz.func126,Tryz.ntmps126
 go_wp2_with fail
 refine (Od.out _ (H.out.alloc _)).mono ?_
 rintro e1 w1 ⟨rfl,hb1⟩
 have HM:=qd ((H.out.alloc _).kept hb1)
 have HB:=qd ((one_below w _).trans (hb1.mono (by simp)))
 have q0:w1.cell? ⟨w.heap.size,0,none⟩=some (.int .u16 c):=by rw [hb1.cell (p:=⟨w.heap.size,0,none⟩) (by simp)];simp
 have ca:=HM.out.ca
 have fa:=HM.out.b.fz 9
 have HE:=qd (HM.out.sa v)
 have HG:=qd (only_trans (only_of HB.out g) (only_set w1 g 9 (.int .u32 v)))
 dsimp only at ca
 clear hb1
 go_wp2_with (go_at_call 157;refine (Kd.out _).mono ?_;rintro e2 w2 ⟨rfl,rfl⟩)
 go_end0
 exact ⟨rfl,HE.out,HG.out⟩
theorem reckon_6 (g:Nat)(R:List Value)(s:Mc)(e:Bool)(y:Nat)(i:Ins)(w:World)(h:Mach w g R s e y)(hs:s.ok)(hi:i.ok)(hop:i.c / 16=6) :
  Calls Tryz.prog 126 #[.pointer (some ⟨g,0,none⟩),.agg #[.int .u16 i.c,.int .u8 i.t,.int .u8 i.f,.int .u32 i.k]] w (MachTo w g R { s with a:=reckN 6 s.a (opd i s) } e y):=by
 have hgl:=h.lt
 have ha:=hs.a
 have hn:=opd_lt hs hi.2.2.2
 have Od:=qd (fun w h=>operand_any g R s e y i w h hi.1)
 have Kd:=qd (fun w=>kind_any i.c 96 w hi.1 (by omega))
 have H:=qd h
 obtain ⟨c,t,f,k⟩:=i
 obtain ⟨n,hnd⟩:∃n,n=opd ⟨c,t,f,k⟩ s:=⟨_,rfl⟩
 rw [←hnd] at Od hn ⊢
 obtain ⟨a,x,m,nx⟩:=s
 dsimp only at *
 obtain ⟨j,hj,hj2⟩:∃j:Nat,bits .and .u32 (n:Int) 31=(j:Int)∧n%32=j:=⟨n%32,by rw [show ((31:Int))=((31:Nat):Int) from rfl,u32_and_nat n 31 hn (by omega),Nat.and_two_pow_sub_one_eq_mod n 5],rfl⟩
 have hj3:j≤31:=by omega
 have hv:(a:Int)*2 ^ j%4294967296=((reckN 6 a n:Nat):Int):=by simp [reckN,hj2]
 clear hj2
 obtain ⟨v,hvd⟩:∃v,v=reckN 6 a n:=⟨_,rfl⟩
 rw [←hvd] at hv ⊢
 clear hnd hvd hop hi hs h
 go_enter Tryz.func126,Tryz.ntmps126
 go_wp2_with fail
 refine (Od.out _ (H.out.alloc _)).mono ?_
 rintro e1 w1 ⟨rfl,hb1⟩
 have HM:=qd ((H.out.alloc _).kept hb1)
 have HB:=qd ((one_below w _).trans (hb1.mono (by simp)))
 have q0:w1.cell? ⟨w.heap.size,0,none⟩=some (.int .u16 c):=by rw [hb1.cell (p:=⟨w.heap.size,0,none⟩) (by simp)];simp
 have ca:=HM.out.ca
 have fa:=HM.out.b.fz 9
 have HE:=qd (HM.out.sa v)
 have HG:=qd (only_trans (only_of HB.out g) (only_set w1 g 9 (.int .u32 v)))
 dsimp only at ca
 clear hb1
 go_wp2_with (go_at_call 157;refine (Kd.out _).mono ?_;rintro e2 w2 ⟨rfl,rfl⟩)
 go_end0
 exact ⟨rfl,HE.out,HG.out⟩
theorem reckon_7 (g:Nat)(R:List Value)(s:Mc)(e:Bool)(y:Nat)(i:Ins)(w:World)(h:Mach w g R s e y)(hs:s.ok)(hi:i.ok)(hop:i.c / 16=7) :
  Calls Tryz.prog 126 #[.pointer (some ⟨g,0,none⟩),.agg #[.int .u16 i.c,.int .u8 i.t,.int .u8 i.f,.int .u32 i.k]] w (MachTo w g R { s with a:=reckN 7 s.a (opd i s) } e y):=by
 have hgl:=h.lt
 have ha:=hs.a
 have hn:=opd_lt hs hi.2.2.2
 have Od:=qd (fun w h=>operand_any g R s e y i w h hi.1)
 have Kd:=qd (fun w=>kind_any i.c 112 w hi.1 (by omega))
 have H:=qd h
 obtain ⟨c,t,f,k⟩:=i
 obtain ⟨n,hnd⟩:∃n,n=opd ⟨c,t,f,k⟩ s:=⟨_,rfl⟩
 rw [←hnd] at Od hn ⊢
 obtain ⟨a,x,m,nx⟩:=s
 dsimp only at *
 obtain ⟨j,hj,hj2⟩:∃j:Nat,bits .and .u32 (n:Int) 31=(j:Int)∧n%32=j:=⟨n%32,by rw [show ((31:Int))=((31:Nat):Int) from rfl,u32_and_nat n 31 hn (by omega),Nat.and_two_pow_sub_one_eq_mod n 5],rfl⟩
 have hj3:j≤31:=by omega
 have hv:(a:Int) / 2 ^ j=((reckN 7 a n:Nat):Int):=by simp [reckN,hj2]
 clear hj2
 obtain ⟨v,hvd⟩:∃v,v=reckN 7 a n:=⟨_,rfl⟩
 rw [←hvd] at hv ⊢
 clear hnd hvd hop hi hs h
 go_enter Tryz.func126,Tryz.ntmps126
 go_wp2_with fail
 refine (Od.out _ (H.out.alloc _)).mono ?_
 rintro e1 w1 ⟨rfl,hb1⟩
 have HM:=qd ((H.out.alloc _).kept hb1)
 have HB:=qd ((one_below w _).trans (hb1.mono (by simp)))
 have q0:w1.cell? ⟨w.heap.size,0,none⟩=some (.int .u16 c):=by rw [hb1.cell (p:=⟨w.heap.size,0,none⟩) (by simp)];simp
 have ca:=HM.out.ca
 have fa:=HM.out.b.fz 9
 have HE:=qd (HM.out.sa v)
 have HG:=qd (only_trans (only_of HB.out g) (only_set w1 g 9 (.int .u32 v)))
 dsimp only at ca
 clear hb1
 go_wp2_with (go_at_call 157;refine (Kd.out _).mono ?_;rintro e2 w2 ⟨rfl,rfl⟩)
 go_end0
 exact ⟨rfl,HE.out,HG.out⟩
theorem reckon_8 (g:Nat)(R:List Value)(s:Mc)(e:Bool)(y:Nat)(i:Ins)(w:World)(h:Mach w g R s e y)(hs:s.ok)(hi:i.ok)(hop:i.c / 16=8) :
  Calls Tryz.prog 126 #[.pointer (some ⟨g,0,none⟩),.agg #[.int .u16 i.c,.int .u8 i.t,.int .u8 i.f,.int .u32 i.k]] w (MachTo w g R { s with a:=reckN 8 s.a (opd i s) } e y):=by
 have hgl:=h.lt
 have ha:=hs.a
 have hn:=opd_lt hs hi.2.2.2
 have Od:=qd (fun w h=>operand_any g R s e y i w h hi.1)
 have Kd:=qd (fun w=>kind_any i.c 128 w hi.1 (by omega))
 have H:=qd h
 obtain ⟨c,t,f,k⟩:=i
 obtain ⟨n,hnd⟩:∃n,n=opd ⟨c,t,f,k⟩ s:=⟨_,rfl⟩
 rw [←hnd] at Od hn ⊢
 obtain ⟨a,x,m,nx⟩:=s
 dsimp only at *
 have hv:(-(a:Int))%4294967296=((reckN 8 a n:Nat):Int):=by simp [reckN];omega
 obtain ⟨v,hvd⟩:∃v,v=reckN 8 a n:=⟨_,rfl⟩
 rw [←hvd] at hv ⊢
 clear hnd hvd hop hi hs h
 go_enter Tryz.func126,Tryz.ntmps126
 go_wp2_with fail
 refine (Od.out _ (H.out.alloc _)).mono ?_
 rintro e1 w1 ⟨rfl,hb1⟩
 have HM:=qd ((H.out.alloc _).kept hb1)
 have HB:=qd ((one_below w _).trans (hb1.mono (by simp)))
 have q0:w1.cell? ⟨w.heap.size,0,none⟩=some (.int .u16 c):=by rw [hb1.cell (p:=⟨w.heap.size,0,none⟩) (by simp)];simp
 have ca:=HM.out.ca
 have fa:=HM.out.b.fz 9
 have HE:=qd (HM.out.sa v)
 have HG:=qd (only_trans (only_of HB.out g) (only_set w1 g 9 (.int .u32 v)))
 dsimp only at ca
 clear hb1
 go_wp2_with (go_at_call 157;refine (Kd.out _).mono ?_;rintro e2 w2 ⟨rfl,rfl⟩)
 go_end0
 exact ⟨rfl,HE.out,HG.out⟩
theorem reckon_3x (g:Nat)(R:List Value)(s s':Mc)(e e':Bool)(y y':Nat)(i:Ins)(w:World)(h:Mach w g R s e y)(hi:i.ok)(hop:i.c / 16=3)
  (Dv:∀w1,Mach w1 g R s e y→Calls Tryz.prog 160 #[.pointer (some ⟨g,0,none⟩),.int .u32 (opd i s:Nat)] w1 (MachTo w1 g R s' e' y')) :
  Calls Tryz.prog 126 #[.pointer (some ⟨g,0,none⟩),.agg #[.int .u16 i.c,.int .u8 i.t,.int .u8 i.f,.int .u32 i.k]] w (MachTo w g R s' e' y'):=by
 have hgl:=h.lt
 have Od:=qd (fun w h=>operand_any g R s e y i w h hi.1)
 have Kd:=qd (fun w=>kind_any i.c 48 w hi.1 (by omega))
 have H:=qd h
 obtain ⟨n,hnd⟩:∃n,n=opd i s:=⟨_,rfl⟩
 rw [←hnd] at Od Dv
 have Dv1:=qd Dv
 obtain ⟨c,t,f,k⟩:=i
 dsimp only at *
 clear hnd hop hi h Dv
 go_enter Tryz.func126,Tryz.ntmps126
 go_wp2_with fail
 refine (Od.out _ (H.out.alloc _)).mono ?_
 rintro e1 w1 ⟨rfl,hb1⟩
 have HM:=qd ((H.out.alloc _).kept hb1)
 have HB:=qd ((one_below w _).trans (hb1.mono (by simp)))
 have q0:w1.cell? ⟨w.heap.size,0,none⟩=some (.int .u16 c):=by rw [hb1.cell (p:=⟨w.heap.size,0,none⟩) (by simp)];simp
 have Dv2:=qd (Dv1.out w1 HM.out)
 clear hb1
 go_wp2_with (go_at_call 157;refine (Kd.out _).mono ?_;rintro e2 w2 ⟨rfl,rfl⟩)
 refine Dv2.out.mono ?_
 rintro e3 w3 ⟨rfl,h4,h5⟩
 have H4:=qd h4
 have H5:=qd h5
 clear h4 h5
 go_wp2_with fail
 go_end0
 exact ⟨rfl,H4.out,only_trans (only_of HB.out g) H5.out⟩
theorem reckon_3 (g:Nat)(R:List Value)(s:Mc)(e:Bool)(y:Nat)(i:Ins)(w:World)(h:Mach w g R s e y)(hs:s.ok)(hi:i.ok)(hop:i.c / 16=3) :
  Calls Tryz.prog 126 #[.pointer (some ⟨g,0,none⟩),.agg #[.int .u16 i.c,.int .u8 i.t,.int .u8 i.f,.int .u32 i.k]] w (if opd i s=0 then MachTo w g R s true 0 else MachTo w g R { s with a:=s.a / opd i s } e y):=by
 have hn:=opd_lt hs hi.2.2.2
 by_cases h0:opd i s=0
 ·rw [if_pos h0]
  exact reckon_3x g R s s e true y 0 i w h hi hop (fun w1 h1=>by have:=divide_any g R s e y (opd i s) w1 h1 hn hs.a;rwa [if_pos h0] at this)
 ·rw [if_neg h0]
  exact reckon_3x g R s _ e e y y i w h hi hop (fun w1 h1=>by have:=divide_any g R s e y (opd i s) w1 h1 hn hs.a;rwa [if_neg h0] at this)
theorem reckon_any (g:Nat)(R:List Value)(s:Mc)(e:Bool)(y:Nat)(i:Ins)(w:World)(h:Mach w g R s e y)(hs:s.ok)(hi:i.ok)(hk:knownB i.c=true)(h4:i.c%8=4) :
  Calls Tryz.prog 126 #[.pointer (some ⟨g,0,none⟩),.agg #[.int .u16 i.c,.int .u8 i.t,.int .u8 i.f,.int .u32 i.k]] w (if i.c / 16=3∧opd i s=0 then MachTo w g R s true 0 else MachTo w g R { s with a:=reckN (i.c / 16) s.a (opd i s) } e y):=by
 have hc:i.c∈codesL:=by simpa [knownB] using hk
 simp only [codesL,List.mem_cons,List.not_mem_nil,or_false] at hc
 have hop:i.c / 16=0∨i.c / 16=1∨i.c / 16=2∨i.c / 16=3∨i.c / 16=4∨i.c / 16=5∨i.c / 16=6∨i.c / 16=7∨i.c / 16=8∨i.c / 16=10:=by omega
 clear hc
 rcases hop with e1|e1|e1|e1|e1|e1|e1|e1|e1|e1
 ·rw [if_neg (by omega),e1];exact reckon_0 g R s e y i w h hs hi e1
 ·rw [if_neg (by omega),e1];exact reckon_1 g R s e y i w h hs hi e1
 ·rw [if_neg (by omega),e1];exact reckon_2 g R s e y i w h hs hi e1
 ·have:=reckon_3 g R s e y i w h hs hi e1
  by_cases h0:opd i s=0
  ·rw [if_pos ⟨e1,h0⟩];rwa [if_pos h0] at this
  ·rw [if_neg (fun x=>h0 x.2),e1];rwa [if_neg h0] at this
 ·rw [if_neg (by omega),e1];exact reckon_4 g R s e y i w h hs hi e1
 ·rw [if_neg (by omega),e1];exact reckon_5 g R s e y i w h hs hi e1
 ·rw [if_neg (by omega),e1];exact reckon_6 g R s e y i w h hs hi e1
 ·rw [if_neg (by omega),e1];exact reckon_7 g R s e y i w h hs hi e1
 ·rw [if_neg (by omega),e1];exact reckon_8 g R s e y i w h hs hi e1
 ·rw [if_neg (by omega),e1];exact reckon_10 g R s e y i w h hs hi e1
end Go.Proofs.YtcnebdjhhfnmoaaGreatDoor
namespace Go.Proofs.YtcnebdjhhfnmoaaGreatDoor
open Go.RowKit
def AskTo (w:World)(b:Bool)(en:Ending)(w':World):Prop:=en=.returned (.bool b)∧Below w.heap.size w w'
theorem holds_1 (g:Nat)(R:List Value)(s:Mc)(e:Bool)(y:Nat)(i:Ins)(w:World)(h:Mach w g R s e y)(hs:s.ok)(hi:i.ok)(hop:i.c / 16=1) :
  Calls Tryz.prog 161 #[.pointer (some ⟨g,0,none⟩),.agg #[.int .u16 i.c,.int .u8 i.t,.int .u8 i.f,.int .u32 i.k]] w (AskTo w (holdsN 1 s.a (opd i s))):=by
 have hgl:=h.lt
 have ha:=hs.a
 have hn:=opd_lt hs hi.2.2.2
 have Od:=qd (fun w h=>operand_any g R s e y i w h hi.1)
 have Kd:=qd (fun w=>kind_any i.c 16 w hi.1 (by omega))
 have H:=qd h
 obtain ⟨c,t,f,k⟩:=i
 obtain ⟨n,hnd⟩:∃n,n=opd ⟨c,t,f,k⟩ s:=⟨_,rfl⟩
 rw [←hnd] at Od hn ⊢
 obtain ⟨a,x,m,nx⟩:=s
 dsimp only at *
 have hv:((a:Int)==(n:Int))=holdsN 1 a n:=by rw [beq_nat];rfl
 obtain ⟨v,hvd⟩:∃v,v=holdsN 1 a n:=⟨_,rfl⟩
 rw [←hvd] at hv ⊢
 clear hnd hvd hop hi hs h
 go_enter Tryz.func161,Tryz.ntmps161
 go_wp2_with fail
 refine (Od.out _ (H.out.alloc _)).mono ?_
 rintro e1 w1 ⟨rfl,hb1⟩
 have HM:=qd ((H.out.alloc _).kept hb1)
 have HB:=qd ((one_below w _).trans (hb1.mono (by simp)))
 have q0:w1.cell? ⟨w.heap.size,0,none⟩=some (.int .u16 c):=by rw [hb1.cell (p:=⟨w.heap.size,0,none⟩) (by simp)];simp
 have ca:=HM.out.ca
 dsimp only at ca
 clear hb1
 go_wp2_with (go_at_call 157;refine (Kd.out _).mono ?_;rintro e2 w2 ⟨rfl,rfl⟩)
 go_ret
 exact ⟨rfl,HB.out⟩
theorem holds_2 (g:Nat)(R:List Value)(s:Mc)(e:Bool)(y:Nat)(i:Ins)(w:World)(h:Mach w g R s e y)(hs:s.ok)(hi:i.ok)(hop:i.c / 16=2) :
  Calls Tryz.prog 161 #[.pointer (some ⟨g,0,none⟩),.agg #[.int .u16 i.c,.int .u8 i.t,.int .u8 i.f,.int .u32 i.k]] w (AskTo w (holdsN 2 s.a (opd i s))):=by
 have hgl:=h.lt
 have ha:=hs.a
 have hn:=opd_lt hs hi.2.2.2
 have Od:=qd (fun w h=>operand_any g R s e y i w h hi.1)
 have Kd:=qd (fun w=>kind_any i.c 32 w hi.1 (by omega))
 have H:=qd h
 obtain ⟨c,t,f,k⟩:=i
 obtain ⟨n,hnd⟩:∃n,n=opd ⟨c,t,f,k⟩ s:=⟨_,rfl⟩
 rw [←hnd] at Od hn ⊢
 obtain ⟨a,x,m,nx⟩:=s
 dsimp only at *
 have hv:decide ((n:Int)<(a:Int))=holdsN 2 a n:=by simp [holdsN]
 obtain ⟨v,hvd⟩:∃v,v=holdsN 2 a n:=⟨_,rfl⟩
 rw [←hvd] at hv ⊢
 have Hv:=qd hv
 clear hv
 clear hnd hvd hop hi hs h
 go_enter Tryz.func161,Tryz.ntmps161
 go_wp2_with fail
 refine (Od.out _ (H.out.alloc _)).mono ?_
 rintro e1 w1 ⟨rfl,hb1⟩
 have HM:=qd ((H.out.alloc _).kept hb1)
 have HB:=qd ((one_below w _).trans (hb1.mono (by simp)))
 have q0:w1.cell? ⟨w.heap.size,0,none⟩=some (.int .u16 c):=by rw [hb1.cell (p:=⟨w.heap.size,0,none⟩) (by simp)];simp
 have ca:=HM.out.ca
 dsimp only at ca
 clear hb1
 go_wp2_with (go_at_call 157;refine (Kd.out _).mono ?_;rintro e2 w2 ⟨rfl,rfl⟩)
 go_ret
 exact ⟨ret_bool (by rw [←Hv.out];simp),HB.out⟩
theorem holds_3 (g:Nat)(R:List Value)(s:Mc)(e:Bool)(y:Nat)(i:Ins)(w:World)(h:Mach w g R s e y)(hs:s.ok)(hi:i.ok)(hop:i.c / 16=3) :
  Calls Tryz.prog 161 #[.pointer (some ⟨g,0,none⟩),.agg #[.int .u16 i.c,.int .u8 i.t,.int .u8 i.f,.int .u32 i.k]] w (AskTo w (holdsN 3 s.a (opd i s))):=by
 have hgl:=h.lt
 have ha:=hs.a
 have hn:=opd_lt hs hi.2.2.2
 have Od:=qd (fun w h=>operand_any g R s e y i w h hi.1)
 have Kd:=qd (fun w=>kind_any i.c 48 w hi.1 (by omega))
 have H:=qd h
 obtain ⟨c,t,f,k⟩:=i
 obtain ⟨n,hnd⟩:∃n,n=opd ⟨c,t,f,k⟩ s:=⟨_,rfl⟩
 rw [←hnd] at Od hn ⊢
 obtain ⟨a,x,m,nx⟩:=s
 dsimp only at *
 have hv:decide ((n:Int)≤(a:Int))=holdsN 3 a n:=by simp [holdsN]
 obtain ⟨v,hvd⟩:∃v,v=holdsN 3 a n:=⟨_,rfl⟩
 rw [←hvd] at hv ⊢
 have Hv:=qd hv
 clear hv
 clear hnd hvd hop hi hs h
 go_enter Tryz.func161,Tryz.ntmps161
 go_wp2_with fail
 refine (Od.out _ (H.out.alloc _)).mono ?_
 rintro e1 w1 ⟨rfl,hb1⟩
 have HM:=qd ((H.out.alloc _).kept hb1)
 have HB:=qd ((one_below w _).trans (hb1.mono (by simp)))
 have q0:w1.cell? ⟨w.heap.size,0,none⟩=some (.int .u16 c):=by rw [hb1.cell (p:=⟨w.heap.size,0,none⟩) (by simp)];simp
 have ca:=HM.out.ca
 dsimp only at ca
 clear hb1
 go_wp2_with (go_at_call 157;refine (Kd.out _).mono ?_;rintro e2 w2 ⟨rfl,rfl⟩)
 go_ret
 exact ⟨ret_bool (by rw [←Hv.out];simp),HB.out⟩
theorem holds_4 (g:Nat)(R:List Value)(s:Mc)(e:Bool)(y:Nat)(i:Ins)(w:World)(h:Mach w g R s e y)(hs:s.ok)(hi:i.ok)(hop:i.c / 16=4) :
  Calls Tryz.prog 161 #[.pointer (some ⟨g,0,none⟩),.agg #[.int .u16 i.c,.int .u8 i.t,.int .u8 i.f,.int .u32 i.k]] w (AskTo w (holdsN 4 s.a (opd i s))):=by
 have hgl:=h.lt
 have ha:=hs.a
 have hn:=opd_lt hs hi.2.2.2
 have Od:=qd (fun w h=>operand_any g R s e y i w h hi.1)
 have Kd:=qd (fun w=>kind_any i.c 64 w hi.1 (by omega))
 have H:=qd h
 obtain ⟨c,t,f,k⟩:=i
 obtain ⟨n,hnd⟩:∃n,n=opd ⟨c,t,f,k⟩ s:=⟨_,rfl⟩
 rw [←hnd] at Od hn ⊢
 obtain ⟨a,x,m,nx⟩:=s
 dsimp only at *
 obtain ⟨z,hz,hzd⟩:∃z:Nat,bits .and .u32 (a:Int) (n:Int)=(z:Int)∧z=a&&&n:=⟨_,u32_and_nat a n ha hn,rfl⟩
 have hv:((z:Int) != 0)=holdsN 4 a n:=by
  show (!((z:Int)==((0:Nat):Int)))=_
  rw [beq_nat,hzd]
  by_cases h0:a&&&n=0<;>simp [holdsN,h0]
 clear hzd
 obtain ⟨v,hvd⟩:∃v,v=holdsN 4 a n:=⟨_,rfl⟩
 rw [←hvd] at hv ⊢
 clear hnd hvd hop hi hs h
 go_enter Tryz.func161,Tryz.ntmps161
 go_wp2_with fail
 refine (Od.out _ (H.out.alloc _)).mono ?_
 rintro e1 w1 ⟨rfl,hb1⟩
 have HM:=qd ((H.out.alloc _).kept hb1)
 have HB:=qd ((one_below w _).trans (hb1.mono (by simp)))
 have q0:w1.cell? ⟨w.heap.size,0,none⟩=some (.int .u16 c):=by rw [hb1.cell (p:=⟨w.heap.size,0,none⟩) (by simp)];simp
 have ca:=HM.out.ca
 dsimp only at ca
 clear hb1
 go_wp2_with (go_at_call 157;refine (Kd.out _).mono ?_;rintro e2 w2 ⟨rfl,rfl⟩)
 go_ret
 exact ⟨rfl,HB.out⟩
theorem holds_any (g:Nat)(R:List Value)(s:Mc)(e:Bool)(y:Nat)(i:Ins)(w:World)(h:Mach w g R s e y)(hs:s.ok)(hi:i.ok)(hk:knownB i.c=true)(h5:i.c%8=5)(h0:i.c≠5) :
  Calls Tryz.prog 161 #[.pointer (some ⟨g,0,none⟩),.agg #[.int .u16 i.c,.int .u8 i.t,.int .u8 i.f,.int .u32 i.k]] w (AskTo w (holdsN (i.c / 16) s.a (opd i s))):=by
 have hc:i.c∈codesL:=by simpa [knownB] using hk
 simp only [codesL,List.mem_cons,List.not_mem_nil,or_false] at hc
 have hop:i.c / 16=1∨i.c / 16=2∨i.c / 16=3∨i.c / 16=4:=by omega
 clear hc
 rcases hop with e1|e1|e1|e1<;>rw [e1]
 ·exact holds_1 g R s e y i w h hs hi e1
 ·exact holds_2 g R s e y i w h hs hi e1
 ·exact holds_3 g R s e y i w h hs hi e1
 ·exact holds_4 g R s e y i w h hs hi e1
theorem far_any (g:Nat)(R:List Value)(s:Mc)(e:Bool)(y:Nat)(i:Ins)(w:World)(h:Mach w g R s e y)(hs:s.ok)(hi:i.ok)(hk:knownB i.c=true)(h5:i.c%8=5) :
  Calls Tryz.prog 127 #[.pointer (some ⟨g,0,none⟩),.agg #[.int .u16 i.c,.int .u8 i.t,.int .u8 i.f,.int .u32 i.k]] w (OneN .i64 (farN i s) w):=by
 have hgl:=h.lt
 have hF:farN i s=if i.c / 16=0 then i.k else if holdsN (i.c / 16) s.a (opd i s)=true then i.t else i.f:=rfl
 obtain ⟨hc1,ht,hf,hk1⟩:=hi
 have hcc:i.c∈codesL:=by simpa [knownB] using hk
 simp only [codesL,List.mem_cons,List.not_mem_nil,or_false] at hcc
 by_cases h0:i.c=5
 ·have Kd:=qd (fun w=>kind_any i.c 0 w hc1 (by omega))
  rw [hF,if_pos (by omega)]
  obtain ⟨c,t,f,k⟩:=i
  dsimp only at *
  clear hF hk h5 hcc h0 h hs
  go_enter Tryz.func127,Tryz.ntmps127
  go_wp2_with (go_at_call 157;refine (Kd.out _).mono ?_;rintro e2 w2 ⟨rfl,rfl⟩)
  go_ret
  exact ⟨rfl,one_below _ _⟩
 ·have hq:i.c / 16*16=16∨i.c / 16*16=32∨i.c / 16*16=48∨i.c / 16*16=64:=by omega
  have Kd:=qd (fun q (hq:i.c / 16*16=q) w=>kind_any i.c q w hc1 hq)
  rw [if_neg (by omega)] at hF
  obtain ⟨d,hd⟩:∃d,d=farN i s:=⟨_,rfl⟩
  rw [←hd] at hF ⊢
  have H:=qd h
  have Ho:=qd (fun w h=>holds_any g R s e y i w h hs ⟨hc1,ht,hf,hk1⟩ hk h5 h0)
  obtain ⟨v,hv⟩:∃v,v=holdsN (i.c / 16) s.a (opd i s):=⟨_,rfl⟩
  rw [←hv] at Ho hF
  have HF:=qd hF
  obtain ⟨c,t,f,k⟩:=i
  dsimp only at *
  clear hF hk h5 hcc h0 h hs hv hd
  rcases hq with hq|hq|hq|hq
  all_goals
   have Kd2:=qd (Kd.out _ hq)
   clear hq Kd
   go_enter Tryz.func127,Tryz.ntmps127
   go_wp2_with (go_at_call 157;refine (Kd2.out _).mono ?_;rintro e2 w2 ⟨rfl,rfl⟩)
   refine (Ho.out _ (H.out.alloc _)).mono ?_
   rintro e1 w1 ⟨rfl,hb1⟩
   have HB:=qd ((one_below w _).trans (hb1.mono (by simp)))
   have q1:w1.cell? ⟨w.heap.size,1,none⟩=some (.int .u8 t):=by rw [hb1.cell (p:=⟨w.heap.size,1,none⟩) (by simp)];simp
   have q2:w1.cell? ⟨w.heap.size,2,none⟩=some (.int .u8 f):=by rw [hb1.cell (p:=⟨w.heap.size,2,none⟩) (by simp)];simp
   clear hb1
   cases v
   ·obtain rfl:d=f:=HF.out
    go_wp2_with fail
    go_ret
    exact ⟨rfl,HB.out⟩
   ·obtain rfl:d=t:=HF.out
    go_wp2_with fail
    go_ret
    exact ⟨rfl,HB.out⟩
end Go.Proofs.YtcnebdjhhfnmoaaGreatDoor
namespace Go.Proofs.YtcnebdjhhfnmoaaGreatDoor
open Go.RowKit
theorem ld_mach {w:World}{g:Nat}{v0 v1 v2 v3 v4 v5 v6 v7 v8:Value}(h0:w.cell? ⟨g,0,none⟩=some v0)(h1:w.cell? ⟨g,1,none⟩=some v1)(h2:w.cell? ⟨g,2,none⟩=some v2)(h3:w.cell? ⟨g,3,none⟩=some v3)
  (h4:w.cell? ⟨g,4,none⟩=some v4) (h5:w.cell? ⟨g,5,none⟩=some v5) (h6:w.cell? ⟨g,6,none⟩=some v6) (h7:w.cell? ⟨g,7,none⟩=some v7) (h8:w.cell? ⟨g,8,none⟩=some v8) :
  (Instr.loadAt 60 (.pointer (some ⟨g,0,none⟩))).run Tryz.prog w=.ok (.agg #[v0,v1,v2,v3,v4,v5,v6,v7,v8]) w:=by
 go_simp
theorem Mach.ld {w:World}{g:Nat}{R:List Value}{s:Mc}{e:Bool}{y:Nat}(h:Mach w g R s e y):(Instr.loadAt 60 (.pointer (some ⟨g,0,none⟩))).run Tryz.prog w=.ok (.agg R.toArray) w:=by
 match R,h.r,h with
 | [v0,v1,v2,v3,v4,v5,v6,v7,v8],_,h=>
  exact ld_mach (h.b.cell 0 rfl) (h.b.cell 1 rfl) (h.b.cell 2 rfl) (h.b.cell 3 rfl) (h.b.cell 4 rfl) (h.b.cell 5 rfl) (h.b.cell 6 rfl) (h.b.cell 7 rfl) (h.b.cell 8 rfl)
def recW (bs:List Nat)(k:Nat):Nat:=Rec.leN bs k 4
theorem recW_lt {bs:List Nat}(h:Rec.IsRec bs)(k:Nat):recW bs k<4294967296:=Rec.leN4_lt h.2 k
theorem recL_len (bs:List Nat):(Rec.recL bs).length=9:=rfl
theorem loaded_imm (bs:List Nat)(g:Nat)(s:Mc)(e:Bool)(y:Nat)(i:Ins)(w:World)(h:Mach w g (Rec.recL bs) s e y)(_hb:Rec.IsRec bs)(hi:i.ok)(hk:i.c / 16*16=0) :
  Calls Tryz.prog 125 #[.pointer (some ⟨g,0,none⟩),.agg #[.int .u16 i.c,.int .u8 i.t,.int .u8 i.f,.int .u32 i.k]] w (OneN .u32 (i.k:Nat) w):=by
 have hgl:=h.lt
 have Kd:=qd (fun w=>kind_any i.c 0 w hi.1 (by omega))
 obtain ⟨c,t,f,k⟩:=i
 dsimp only at *
 clear h _hb hi hk
 go_enter Tryz.func125,Tryz.ntmps125
 go_wp2_with (go_at_call 157;refine (Kd.out _).mono ?_;rintro e2 w2 ⟨rfl,rfl⟩)
 go_ret
 exact ⟨rfl,one_below _ _⟩
theorem loaded_len (bs:List Nat)(g:Nat)(s:Mc)(e:Bool)(y:Nat)(i:Ins)(w:World)(h:Mach w g (Rec.recL bs) s e y)(_hb:Rec.IsRec bs)(hi:i.ok)(hk:i.c / 16*16=128) :
  Calls Tryz.prog 125 #[.pointer (some ⟨g,0,none⟩),.agg #[.int .u16 i.c,.int .u8 i.t,.int .u8 i.f,.int .u32 i.k]] w (OneN .u32 (64:Nat) w):=by
 have hgl:=h.lt
 have Kd:=qd (fun w=>kind_any i.c 128 w hi.1 (by omega))
 obtain ⟨c,t,f,k⟩:=i
 dsimp only at *
 clear h _hb hi hk
 go_enter Tryz.func125,Tryz.ntmps125
 go_wp2_with (go_at_call 157;refine (Kd.out _).mono ?_;rintro e2 w2 ⟨rfl,rfl⟩)
 go_ret
 exact ⟨rfl,one_below _ _⟩
theorem loaded_mem (bs:List Nat)(g:Nat)(s:Mc)(e:Bool)(y:Nat)(i:Ins)(w:World)(h:Mach w g (Rec.recL bs) s e y)(_hb:Rec.IsRec bs)(hi:i.ok)(hk:i.c / 16*16=96∧i.k<16) :
  Calls Tryz.prog 125 #[.pointer (some ⟨g,0,none⟩),.agg #[.int .u16 i.c,.int .u8 i.t,.int .u8 i.f,.int .u32 i.k]] w (OneN .u32 (s.m.getD i.k 0:Nat) w):=by
 have hgl:=h.lt
 have Kd:=qd (fun w=>kind_any i.c 96 w hi.1 (by omega))
 obtain ⟨hk1,hk2⟩:=hk
 have cm:=h.cm hk2
 obtain ⟨c,t,f,k⟩:=i
 dsimp only at *
 obtain ⟨v,hv⟩:∃v,v=s.m.getD k 0:=⟨_,rfl⟩
 rw [←hv] at cm ⊢
 have k0:(0:Int)≤(k:Int):=by omega
 have k1:(k:Int)<16:=by omega
 have k2:(k:Int).toNat=k:=by omega
 clear h _hb hi hk1 hv
 go_enter Tryz.func125,Tryz.ntmps125
 go_wp2_with (go_at_call 157;refine (Kd.out _).mono ?_;rintro e2 w2 ⟨rfl,rfl⟩)
 go_quiet (fail)
 go_wp2_with fail
 go_ret
 exact ⟨rfl,(one_below _ _).trans (below_drewN (Below.refl _ _) _)⟩
theorem loaded_abs (bs:List Nat)(g:Nat)(s:Mc)(e:Bool)(y:Nat)(i:Ins)(w:World)(h:Mach w g (Rec.recL bs) s e y)(hb:Rec.IsRec bs)(hi:i.ok)(hk:i.c / 16*16=32∧i.k%4=0∧i.k≤60) :
  Calls Tryz.prog 125 #[.pointer (some ⟨g,0,none⟩),.agg #[.int .u16 i.c,.int .u8 i.t,.int .u8 i.f,.int .u32 i.k]] w (OneN .u32 (recW bs i.k:Nat) w):=by
 have hgl:=h.lt
 have Kd:=qd (fun w=>kind_any i.c 32 w hi.1 (by omega))
 obtain ⟨hk1,hk2,hk3⟩:=hk
 have Wd:=qd (fun w=>Rec.word_yes bs i.k w hb.1 hb.2 hk2 hk3)
 obtain ⟨R,hR⟩:∃R,R=Rec.recL bs:=⟨_,rfl⟩
 rw [←hR] at h Wd
 obtain ⟨v,hv⟩:∃v,v=recW bs i.k:=⟨_,rfl⟩
 rw [show Rec.leN bs i.k 4=v from hv.symm] at Wd
 rw [←hv]
 obtain ⟨c,t,f,k⟩:=i
 dsimp only at *
 have H:=qd h
 clear h hb hi hk1 hk2 hk3 hv hR
 go_enter Tryz.func125,Tryz.ntmps125
 go_wp2_with (go_at_call 157;refine (Kd.out _).mono ?_;rintro e2 w2 ⟨rfl,rfl⟩)
 have HM:=qd (H.out.alloc (.cells #[.int .u16 c,.int .u8 t,.int .u8 f,.int .u32 k] 76))
 have q3:(w.alloc (.cells #[.int .u16 c,.int .u8 t,.int .u8 f,.int .u32 k] 76)).cell? ⟨w.heap.size,3,none⟩=some (.int .u32 k):=by simp
 have hlt:w.heap.size<(w.alloc (.cells #[.int .u16 c,.int .u8 t,.int .u8 f,.int .u32 k] 76)).heap.size:=by simp
 have HB:=qd (one_below w (.cells #[.int .u16 c,.int .u8 t,.int .u8 f,.int .u32 k] 76))
 revert q3 HM HB hlt
 generalize w.alloc (.cells #[.int .u16 c,.int .u8 t,.int .u8 f,.int .u32 k] 76)=wx
 intro HM q3 hlt HB
 have HS:=qd (show ∀w',Below wx.heap.size wx w'→(w'.cell? ⟨w.heap.size,3,none⟩=some (.int .u32 k)∧(Instr.loadAt 60 (.pointer (some ⟨g,0,none⟩))).run Tryz.prog w'=.ok (.agg R.toArray) w')∧Hid (Below wx.heap.size wx w') from fun w' h=>⟨⟨by rw [h.cell (p:=⟨w.heap.size,3,none⟩) hlt];exact q3,(HM.out.kept h).ld⟩,h⟩)
 clear q3 hlt hgl
 refine wp_region_held_drew (S:=(fun w'=>(w'.cell? ⟨w.heap.size,3,none⟩=some (.int .u32 k)∧(Instr.loadAt 60 (.pointer (some ⟨g,0,none⟩))).run Tryz.prog w'=.ok (.agg R.toArray) w')∧Hid (Below wx.heap.size wx w'))) (by kernel_rfl) ?_ (fun hHeld0=>?_)
 ·exact HS.out _ (Below.refl _ _).drew
 refine tkH (i:=0) (s:=hHeld0) (h:=?_)
 try simp only [Act.put,pA,pB,pC]
 refine tkH (i:=1) (s:=hHeld0) (h:=?_)
 try simp only [Act.put,pA,pB,pC]
 refine tkH (i:=2) (s:=hHeld0) (h:=?_)
 try simp only [Act.put,pA,pB,pC]
 refine tkH (i:=3) (v:=?_) (y:=Or.inl ⟨by rfl,?_⟩) (s:=hHeld0) (h:=?_)
 rotate_left 1
 ·intro w hSw
  refine Eq.trans (Rec.exec_load rfl rfl (hSw.1.2)) ?_
  with_reducible rfl
 try simp only [Act.put,pA,pB,pC]
 refine tkH (i:=4) (s:=hHeld0) (h:=?_)
 try simp only [Act.put,pA,pB,pC]
 refine tkH (i:=5) (s:=hHeld0) (h:=?_)
 try simp only [Act.put,pA,pB,pC]
 refine wpAnyH_ready (rs:=[6]) (by kernel_rfl) (by simp) ?_
 refine AllReadyH.cons (by first|(simp only [List.getElem?_toArray,List.getElem?_cons_succ,List.getElem?_cons_zero]<;>rfl)|rfl) (fun K hK=>?_) AllReadyH.nil
 go_simp
 refine (Wd.out _).mono ?_;rintro e3 w3 ⟨rfl,hb3⟩
 go_wp2_with fail
 refine hK.out _ _ ?_ (fun hHeld1=>?_)
 ·(try dsimp only)
  exact HS.out _ (Rec.step2 hb3 hHeld0)
 clear hK K hHeld0
 try simp only [Act.put,pA,pB,pC]
 refine tkH (i:=7) (s:=hHeld1) (h:=?_)
 try simp only [Act.put,pA,pB,pC]
 refine tkH (i:=8) (s:=hHeld1) (h:=?_)
 try simp only [Act.put,pA,pB,pC]
 refine tkH (i:=9) (s:=hHeld1) (h:=?_)
 try simp only [Act.put,pA,pB,pC]
 refine tkH (i:=10) (s:=hHeld1) (h:=?_)
 try simp only [Act.put,pA,pB,pC]
 refine tkH (i:=11) (s:=hHeld1) (h:=?_)
 try simp only [Act.put,pA,pB,pC]
 refine wpAnyH_done (by kernel_rfl) ?_ _
 have HEnd:=qd (HB.out.trans ((Rec.step1 hHeld1).mono HB.out.size))
 clear hHeld1
 go_wp2_with fail
 go_ret
 exact ⟨rfl,HEnd.out⟩
theorem loaded_any (bs:List Nat)(g:Nat)(s:Mc)(e:Bool)(y:Nat)(i:Ins)(w:World)(h:Mach w g (Rec.recL bs) s e y)(hb:Rec.IsRec bs)(hi:i.ok)(hk:knownB i.c=true)(hr:rangeB i=true)(h01:i.c%8=0∨i.c%8=1) :
  Calls Tryz.prog 125 #[.pointer (some ⟨g,0,none⟩),.agg #[.int .u16 i.c,.int .u8 i.t,.int .u8 i.f,.int .u32 i.k]] w (OneN .u32 (ldN (recW bs) i s.m) w):=by
 have hc:i.c∈codesL:=by simpa [knownB] using hk
 simp only [codesL,List.mem_cons,List.not_mem_nil,or_false] at hc
 have hop:i.c=32∨(i.c=96∨i.c=97)∨(i.c=128∨i.c=129)∨(i.c=0∨i.c=1):=by omega
 clear hc
 unfold ldN
 rcases hop with e1|e1|e1|e1
 ·rw [if_pos (by omega)]
  have:i.k%4=0∧i.k≤60:=by simpa [rangeB,e1] using hr
  exact loaded_abs bs g s e y i w h hb hi ⟨by omega,this.1,this.2⟩
 ·rw [if_neg (by omega),if_pos (by omega)]
  exact loaded_mem bs g s e y i w h hb hi ⟨by omega,scratch_lt hr (by omega)⟩
 ·rw [if_neg (by omega),if_neg (by omega),if_pos (by omega)]
  exact loaded_len bs g s e y i w h hb hi (by omega)
 ·rw [if_neg (by omega),if_neg (by omega),if_neg (by omega)]
  exact loaded_imm bs g s e y i w h hb hi (by omega)
end Go.Proofs.YtcnebdjhhfnmoaaGreatDoor
namespace Go.Proofs.YtcnebdjhhfnmoaaGreatDoor
open Go.RowKit
theorem box_cell (w:World)(g n1 c t f k j:Nat)(u:Value)(hu:(Ins.cells ⟨c,t,f,k⟩)[j]?=some u):((w.setCell ⟨g,27,none⟩ (.int .i64 n1)).alloc (.cells #[.int .u16 c,.int .u8 t,.int .u8 f,.int .u32 k] 76)).cell? ⟨w.heap.size,j,none⟩=some u:=by
 have e:(w.setCell ⟨g,27,none⟩ (.int .i64 n1)).heap.size=w.heap.size:=by simp [World.setCell]
 have:=(Bk.new (l:=Ins.cells ⟨c,t,f,k⟩) (w.setCell ⟨g,27,none⟩ (.int .i64 n1)) 76 _ rfl).cell j hu
 rwa [e] at this
theorem step_0 (v:Nat)(g:Nat)(R:List Value)(s:Mc)(y:Nat)(i:Ins)(w:World)(h:Mach w g R s false y)(hi:i.ok)(hn:s.nx≤5000)(hc:i.c%8=0)
  (Ld:∀w1,Mach w1 g R { s with nx:=s.nx+1 } false y→Calls Tryz.prog 125 #[.pointer (some ⟨g,0,none⟩),.agg #[.int .u16 i.c,.int .u8 i.t,.int .u8 i.f,.int .u32 i.k]] w1 (OneN .u32 v w1)) :
  Calls Tryz.prog 87 #[.pointer (some ⟨g,0,none⟩),.agg #[.int .u16 i.c,.int .u8 i.t,.int .u8 i.f,.int .u32 i.k]] w (MachTo w g R { s with a:=v,nx:=s.nx+1 } false y):=by
 have hgl:=h.lt
 have cn:=h.cn
 have fn:=h.b.fz 27
 have hnn:0≤(s.nx:Int):=by omega
 have Cl:=qd (fun w=>class_any i.c w hi.1)
 rw [hc] at Cl
 obtain ⟨n1,hn1,hn2⟩:∃n1:Nat,(s.nx:Int)+1=n1∧n1=s.nx+1:=⟨s.nx+1,by omega,rfl⟩
 have H1:=h.sn n1
 have G1:=only_set w g 27 (.int .i64 (n1:Int))
 rw [hn2] at H1
 rw [←hn2] at H1
 rw [←hn2] at Ld ⊢
 obtain ⟨c,t,f,k⟩:=i
 obtain ⟨a,x,m,nx⟩:=s
 dsimp only at *
 have HA:=qd (H1.alloc (.cells #[.int .u16 c,.int .u8 t,.int .u8 f,.int .u32 k] 76))
 have HG:=qd (only_trans G1 (only_alloc _ g (.cells #[.int .u16 c,.int .u8 t,.int .u8 f,.int .u32 k] 76)))
 have Ld1:=qd (fun w1 h=>Ld w1 h)
 clear h hi hc hn2 H1 G1 Ld
 go_enter Tryz.func87,Tryz.ntmps87
 go_wp2_with (go_at_call 42;refine (Cl.out _).mono ?_;rintro e2 w2 ⟨rfl,rfl⟩)
 refine (Ld1.out _ HA.out).mono ?_
 rintro e3 w3 ⟨rfl,hb3⟩
 have HM:=qd (HA.out.kept hb3)
 have ce:=HM.out.b.cell 9 (mac_a HM.out.r)
 have fe:=HM.out.b.fz 9
 have HE:=qd (HM.out.sa v)
 have HG2:=qd (only_trans HG.out (only_trans (only_of hb3 g) (only_set w3 g 9 (.int .u32 v))))
 dsimp only at ce
 clear hb3
 go_wp2_with fail
 go_end0
 exact ⟨rfl,HE.out,HG2.out⟩
theorem step_1 (v:Nat)(g:Nat)(R:List Value)(s:Mc)(y:Nat)(i:Ins)(w:World)(h:Mach w g R s false y)(hi:i.ok)(hn:s.nx≤5000)(hc:i.c%8=1)
  (Ld:∀w1,Mach w1 g R { s with nx:=s.nx+1 } false y→Calls Tryz.prog 125 #[.pointer (some ⟨g,0,none⟩),.agg #[.int .u16 i.c,.int .u8 i.t,.int .u8 i.f,.int .u32 i.k]] w1 (OneN .u32 v w1)) :
  Calls Tryz.prog 87 #[.pointer (some ⟨g,0,none⟩),.agg #[.int .u16 i.c,.int .u8 i.t,.int .u8 i.f,.int .u32 i.k]] w (MachTo w g R { s with x:=v,nx:=s.nx+1 } false y):=by
 have hgl:=h.lt
 have cn:=h.cn
 have fn:=h.b.fz 27
 have hnn:0≤(s.nx:Int):=by omega
 have Cl:=qd (fun w=>class_any i.c w hi.1)
 rw [hc] at Cl
 obtain ⟨n1,hn1,hn2⟩:∃n1:Nat,(s.nx:Int)+1=n1∧n1=s.nx+1:=⟨s.nx+1,by omega,rfl⟩
 have H1:=h.sn n1
 have G1:=only_set w g 27 (.int .i64 (n1:Int))
 rw [hn2] at H1
 rw [←hn2] at H1
 rw [←hn2] at Ld ⊢
 obtain ⟨c,t,f,k⟩:=i
 obtain ⟨a,x,m,nx⟩:=s
 dsimp only at *
 have HA:=qd (H1.alloc (.cells #[.int .u16 c,.int .u8 t,.int .u8 f,.int .u32 k] 76))
 have HG:=qd (only_trans G1 (only_alloc _ g (.cells #[.int .u16 c,.int .u8 t,.int .u8 f,.int .u32 k] 76)))
 have Ld1:=qd (fun w1 h=>Ld w1 h)
 clear h hi hc hn2 H1 G1 Ld
 go_enter Tryz.func87,Tryz.ntmps87
 go_wp2_with (go_at_call 42;refine (Cl.out _).mono ?_;rintro e2 w2 ⟨rfl,rfl⟩)
 refine (Ld1.out _ HA.out).mono ?_
 rintro e3 w3 ⟨rfl,hb3⟩
 have HM:=qd (HA.out.kept hb3)
 have ce:=HM.out.b.cell 10 (mac_x HM.out.r)
 have fe:=HM.out.b.fz 10
 have HE:=qd (HM.out.sx v)
 have HG2:=qd (only_trans HG.out (only_trans (only_of hb3 g) (only_set w3 g 10 (.int .u32 v))))
 dsimp only at ce
 clear hb3
 go_wp2_with fail
 go_end0
 exact ⟨rfl,HE.out,HG2.out⟩
theorem step_2 (g:Nat)(R:List Value)(s:Mc)(y:Nat)(i:Ins)(w:World)(h:Mach w g R s false y)(hi:i.ok)(hn:s.nx≤5000)(hc:i.c%8=2)(hk:i.k<16) :
  Calls Tryz.prog 87 #[.pointer (some ⟨g,0,none⟩),.agg #[.int .u16 i.c,.int .u8 i.t,.int .u8 i.f,.int .u32 i.k]] w (MachTo w g R { s with m:=s.m.set i.k s.a,nx:=s.nx+1 } false y):=by
 have hgl:=h.lt
 have cn:=h.cn
 have fn:=h.b.fz 27
 have hnn:0≤(s.nx:Int):=by omega
 have Cl:=qd (fun w=>class_any i.c w hi.1)
 rw [hc] at Cl
 obtain ⟨n1,hn1,hn2⟩:∃n1:Nat,(s.nx:Int)+1=n1∧n1=s.nx+1:=⟨s.nx+1,by omega,rfl⟩
 have H1:=h.sn n1
 have G1:=only_set w g 27 (.int .i64 (n1:Int))
 rw [hn2] at H1
 rw [←hn2] at H1
 rw [←hn2]
 obtain ⟨c,t,f,k⟩:=i
 obtain ⟨a,x,m,nx⟩:=s
 dsimp only at *
 have hA:=H1.alloc (.cells #[.int .u16 c,.int .u8 t,.int .u8 f,.int .u32 k] 76)
 have hG:=only_trans G1 (only_alloc _ g (.cells #[.int .u16 c,.int .u8 t,.int .u8 f,.int .u32 k] 76))
 have q3:=box_cell w g n1 c t f k 3 _ rfl
 have HA:=qd hA
 have HG:=qd hG
 have Q3:=qd q3
 have HK:=qd hk
 clear h hi hc hn2 H1 G1 hA hG q3 hk
 go_enter Tryz.func87,Tryz.ntmps87
 go_wp2_with (go_at_call 42;refine (Cl.out _).mono ?_;rintro e2 w2 ⟨rfl,rfl⟩)
 revert HA HG Q3
 generalize (w.setCell ⟨g,27,none⟩ (.int .i64 n1)).alloc (.cells #[.int .u16 c,.int .u8 t,.int .u8 f,.int .u32 k] 76)=wx
 intro HA HG Q3
 have q3:=Q3.out
 have hk:=HK.out
 have c1:=HA.out.ca
 have cm:=HA.out.cm hk
 have fm:=HA.out.b.fz (11+k)
 have HE:=qd (HA.out.sm hk a)
 have HG2:=qd (only_trans HG.out (only_set wx g (11+k) (.int .u32 a)))
 dsimp only at c1 cm
 have k0:(0:Int)≤(k:Int):=by omega
 have k1:(k:Int)<16:=by omega
 have k2:(k:Int).toNat=k:=by omega
 clear Q3 cn fn hgl hk
 go_still_tail 10,(by kernel_rfl)
 go_wp2_with fail
 go_end0
 exact ⟨rfl,HE.out.drew,only_trans HG2.out (only_drew _ g)⟩
theorem step_3 (g:Nat)(R:List Value)(s:Mc)(y:Nat)(i:Ins)(w:World)(h:Mach w g R s false y)(hi:i.ok)(hn:s.nx≤5000)(hc:i.c%8=3)(hk:i.k<16) :
  Calls Tryz.prog 87 #[.pointer (some ⟨g,0,none⟩),.agg #[.int .u16 i.c,.int .u8 i.t,.int .u8 i.f,.int .u32 i.k]] w (MachTo w g R { s with m:=s.m.set i.k s.x,nx:=s.nx+1 } false y):=by
 have hgl:=h.lt
 have cn:=h.cn
 have fn:=h.b.fz 27
 have hnn:0≤(s.nx:Int):=by omega
 have Cl:=qd (fun w=>class_any i.c w hi.1)
 rw [hc] at Cl
 obtain ⟨n1,hn1,hn2⟩:∃n1:Nat,(s.nx:Int)+1=n1∧n1=s.nx+1:=⟨s.nx+1,by omega,rfl⟩
 have H1:=h.sn n1
 have G1:=only_set w g 27 (.int .i64 (n1:Int))
 rw [hn2] at H1
 rw [←hn2] at H1
 rw [←hn2]
 obtain ⟨c,t,f,k⟩:=i
 obtain ⟨a,x,m,nx⟩:=s
 dsimp only at *
 have hA:=H1.alloc (.cells #[.int .u16 c,.int .u8 t,.int .u8 f,.int .u32 k] 76)
 have hG:=only_trans G1 (only_alloc _ g (.cells #[.int .u16 c,.int .u8 t,.int .u8 f,.int .u32 k] 76))
 have q3:=box_cell w g n1 c t f k 3 _ rfl
 have HA:=qd hA
 have HG:=qd hG
 have Q3:=qd q3
 have HK:=qd hk
 clear h hi hc hn2 H1 G1 hA hG q3 hk
 go_enter Tryz.func87,Tryz.ntmps87
 go_wp2_with (go_at_call 42;refine (Cl.out _).mono ?_;rintro e2 w2 ⟨rfl,rfl⟩)
 revert HA HG Q3
 generalize (w.setCell ⟨g,27,none⟩ (.int .i64 n1)).alloc (.cells #[.int .u16 c,.int .u8 t,.int .u8 f,.int .u32 k] 76)=wx
 intro HA HG Q3
 have q3:=Q3.out
 have hk:=HK.out
 have c1:=HA.out.cx
 have cm:=HA.out.cm hk
 have fm:=HA.out.b.fz (11+k)
 have HE:=qd (HA.out.sm hk x)
 have HG2:=qd (only_trans HG.out (only_set wx g (11+k) (.int .u32 x)))
 dsimp only at c1 cm
 have k0:(0:Int)≤(k:Int):=by omega
 have k1:(k:Int)<16:=by omega
 have k2:(k:Int).toNat=k:=by omega
 clear Q3 cn fn hgl hk
 go_still_tail 10,(by kernel_rfl)
 go_wp2_with fail
 go_end0
 exact ⟨rfl,HE.out.drew,only_trans HG2.out (only_drew _ g)⟩
theorem step_4 (s':Mc)(e':Bool)(y':Nat)(g:Nat)(R:List Value)(s:Mc)(y:Nat)(i:Ins)(w:World)(h:Mach w g R s false y)(hi:i.ok)(hn:s.nx≤5000)(hc:i.c%8=4)
  (Dv:∀w1,Mach w1 g R { s with nx:=s.nx+1 } false y→Calls Tryz.prog 126 #[.pointer (some ⟨g,0,none⟩),.agg #[.int .u16 i.c,.int .u8 i.t,.int .u8 i.f,.int .u32 i.k]] w1 (MachTo w1 g R s' e' y')) :
  Calls Tryz.prog 87 #[.pointer (some ⟨g,0,none⟩),.agg #[.int .u16 i.c,.int .u8 i.t,.int .u8 i.f,.int .u32 i.k]] w (MachTo w g R s' e' y'):=by
 have hgl:=h.lt
 have cn:=h.cn
 have fn:=h.b.fz 27
 have hnn:0≤(s.nx:Int):=by omega
 have Cl:=qd (fun w=>class_any i.c w hi.1)
 rw [hc] at Cl
 obtain ⟨n1,hn1,hn2⟩:∃n1:Nat,(s.nx:Int)+1=n1∧n1=s.nx+1:=⟨s.nx+1,by omega,rfl⟩
 have H1:=h.sn n1
 have G1:=only_set w g 27 (.int .i64 (n1:Int))
 rw [hn2] at H1
 rw [←hn2] at H1
 rw [←hn2] at Dv
 obtain ⟨c,t,f,k⟩:=i
 obtain ⟨a,x,m,nx⟩:=s
 dsimp only at *
 have HA:=qd (H1.alloc (.cells #[.int .u16 c,.int .u8 t,.int .u8 f,.int .u32 k] 76))
 have HG:=qd (only_trans G1 (only_alloc _ g (.cells #[.int .u16 c,.int .u8 t,.int .u8 f,.int .u32 k] 76)))
 have Dv1:=qd (fun w1 h=>Dv w1 h)
 clear h hi hc hn2 H1 G1 Dv
 go_enter Tryz.func87,Tryz.ntmps87
 go_wp2_with (go_at_call 42;refine (Cl.out _).mono ?_;rintro e2 w2 ⟨rfl,rfl⟩)
 refine (Dv1.out _ HA.out).mono ?_
 rintro e3 w3 ⟨rfl,h4,h5⟩
 have H4:=qd h4
 have H5:=qd (only_trans HG.out h5)
 clear h4 h5
 go_wp2_with fail
 go_end0
 exact ⟨rfl,H4.out,H5.out⟩
theorem step_7 (s':Mc)(e':Bool)(y':Nat)(g:Nat)(R:List Value)(s:Mc)(y:Nat)(i:Ins)(w:World)(h:Mach w g R s false y)(hi:i.ok)(hn:s.nx≤5000)(hc:i.c%8=7)
  (Dv:∀w1,Mach w1 g R { s with nx:=s.nx+1 } false y→Calls Tryz.prog 130 #[.pointer (some ⟨g,0,none⟩),.agg #[.int .u16 i.c,.int .u8 i.t,.int .u8 i.f,.int .u32 i.k]] w1 (MachTo w1 g R s' e' y')) :
  Calls Tryz.prog 87 #[.pointer (some ⟨g,0,none⟩),.agg #[.int .u16 i.c,.int .u8 i.t,.int .u8 i.f,.int .u32 i.k]] w (MachTo w g R s' e' y'):=by
 have hgl:=h.lt
 have cn:=h.cn
 have fn:=h.b.fz 27
 have hnn:0≤(s.nx:Int):=by omega
 have Cl:=qd (fun w=>class_any i.c w hi.1)
 rw [hc] at Cl
 obtain ⟨n1,hn1,hn2⟩:∃n1:Nat,(s.nx:Int)+1=n1∧n1=s.nx+1:=⟨s.nx+1,by omega,rfl⟩
 have H1:=h.sn n1
 have G1:=only_set w g 27 (.int .i64 (n1:Int))
 rw [hn2] at H1
 rw [←hn2] at H1
 rw [←hn2] at Dv
 obtain ⟨c,t,f,k⟩:=i
 obtain ⟨a,x,m,nx⟩:=s
 dsimp only at *
 have HA:=qd (H1.alloc (.cells #[.int .u16 c,.int .u8 t,.int .u8 f,.int .u32 k] 76))
 have HG:=qd (only_trans G1 (only_alloc _ g (.cells #[.int .u16 c,.int .u8 t,.int .u8 f,.int .u32 k] 76)))
 have Dv1:=qd (fun w1 h=>Dv w1 h)
 clear h hi hc hn2 H1 G1 Dv
 go_enter Tryz.func87,Tryz.ntmps87
 go_wp2_with (go_at_call 42;refine (Cl.out _).mono ?_;rintro e2 w2 ⟨rfl,rfl⟩)
 refine (Dv1.out _ HA.out).mono ?_
 rintro e3 w3 ⟨rfl,h4,h5⟩
 have H4:=qd h4
 have H5:=qd (only_trans HG.out h5)
 clear h4 h5
 go_wp2_with fail
 go_end0
 exact ⟨rfl,H4.out,H5.out⟩
theorem step_6 (r:Nat)(g:Nat)(R:List Value)(s:Mc)(y:Nat)(i:Ins)(w:World)(h:Mach w g R s false y)(hi:i.ok)(hn:s.nx≤5000)(hc:i.c%8=6)
  (An:∀w1,Mach w1 g R { s with nx:=s.nx+1 } false y→Calls Tryz.prog 129 #[.pointer (some ⟨g,0,none⟩),.agg #[.int .u16 i.c,.int .u8 i.t,.int .u8 i.f,.int .u32 i.k]] w1 (OneN .u32 r w1)) :
  Calls Tryz.prog 87 #[.pointer (some ⟨g,0,none⟩),.agg #[.int .u16 i.c,.int .u8 i.t,.int .u8 i.f,.int .u32 i.k]] w (MachTo w g R { s with nx:=s.nx+1 } true r):=by
 have hgl:=h.lt
 have cn:=h.cn
 have fn:=h.b.fz 27
 have hnn:0≤(s.nx:Int):=by omega
 have Cl:=qd (fun w=>class_any i.c w hi.1)
 rw [hc] at Cl
 obtain ⟨n1,hn1,hn2⟩:∃n1:Nat,(s.nx:Int)+1=n1∧n1=s.nx+1:=⟨s.nx+1,by omega,rfl⟩
 have H1:=h.sn n1
 have G1:=only_set w g 27 (.int .i64 (n1:Int))
 rw [hn2] at H1
 rw [←hn2] at H1
 rw [←hn2] at An ⊢
 have En:=qd (fun w h=>end_any g R { s with nx:=n1 } false y r w h)
 obtain ⟨c,t,f,k⟩:=i
 obtain ⟨a,x,m,nx⟩:=s
 dsimp only at *
 have HA:=qd (H1.alloc (.cells #[.int .u16 c,.int .u8 t,.int .u8 f,.int .u32 k] 76))
 have HG:=qd (only_trans G1 (only_alloc _ g (.cells #[.int .u16 c,.int .u8 t,.int .u8 f,.int .u32 k] 76)))
 have An1:=qd (fun w1 h=>An w1 h)
 clear h hi hc hn2 H1 G1 An
 go_enter Tryz.func87,Tryz.ntmps87
 go_wp2_with (go_at_call 42;refine (Cl.out _).mono ?_;rintro e2 w2 ⟨rfl,rfl⟩)
 refine (An1.out _ HA.out).mono ?_
 rintro e3 w3 ⟨rfl,hb3⟩
 have HM:=qd (HA.out.kept hb3)
 have HG2:=qd (only_trans HG.out (only_of hb3 g))
 clear hb3
 go_wp2_with fail
 refine (En.out _ HM.out).mono ?_
 rintro e3 w3 ⟨rfl,h4,h5⟩
 have H4:=qd h4
 have H5:=qd (only_trans HG2.out h5)
 clear h4 h5
 go_wp2_with fail
 go_end0
 exact ⟨rfl,H4.out,H5.out⟩
theorem step_5 (d:Nat)(g:Nat)(R:List Value)(s:Mc)(y:Nat)(i:Ins)(w:World)(h:Mach w g R s false y)(hi:i.ok)(hn:s.nx≤5000)(hc:i.c%8=5)(hd:d<4294967296)
  (Fa:∀w1,Mach w1 g R { s with nx:=s.nx+1 } false y→Calls Tryz.prog 127 #[.pointer (some ⟨g,0,none⟩),.agg #[.int .u16 i.c,.int .u8 i.t,.int .u8 i.f,.int .u32 i.k]] w1 (OneN .i64 d w1)) :
  Calls Tryz.prog 87 #[.pointer (some ⟨g,0,none⟩),.agg #[.int .u16 i.c,.int .u8 i.t,.int .u8 i.f,.int .u32 i.k]] w (MachTo w g R { s with nx:=s.nx+1+d } false y):=by
 have hgl:=h.lt
 have cn:=h.cn
 have fn:=h.b.fz 27
 have hnn:0≤(s.nx:Int):=by omega
 have Cl:=qd (fun w=>class_any i.c w hi.1)
 rw [hc] at Cl
 obtain ⟨n1,hn1,hn2⟩:∃n1:Nat,(s.nx:Int)+1=n1∧n1=s.nx+1:=⟨s.nx+1,by omega,rfl⟩
 have H1:=h.sn n1
 have G1:=only_set w g 27 (.int .i64 (n1:Int))
 rw [hn2] at H1
 rw [←hn2] at H1
 rw [←hn2] at Fa ⊢
 obtain ⟨n3,hn3,hn4⟩:∃n3:Nat,(n1:Int)+(d:Int)=n3∧n3=n1+d:=⟨n1+d,by omega,rfl⟩
 rw [←hn4]
 obtain ⟨c,t,f,k⟩:=i
 obtain ⟨a,x,m,nx⟩:=s
 dsimp only at *
 have HA:=qd (H1.alloc (.cells #[.int .u16 c,.int .u8 t,.int .u8 f,.int .u32 k] 76))
 have HG:=qd (only_trans G1 (only_alloc _ g (.cells #[.int .u16 c,.int .u8 t,.int .u8 f,.int .u32 k] 76)))
 have Fa1:=qd (fun w1 h=>Fa w1 h)
 have q0:=box_cell w g n1 c t f k 0 _ rfl
 have q1:=box_cell w g n1 c t f k 1 _ rfl
 have q2:=box_cell w g n1 c t f k 2 _ rfl
 have q3:=box_cell w g n1 c t f k 3 _ rfl
 have hlt:w.heap.size<((w.setCell ⟨g,27,none⟩ (.int .i64 n1)).alloc (.cells #[.int .u16 c,.int .u8 t,.int .u8 f,.int .u32 k] 76)).heap.size:=by simp [World.setCell]
 have Q:=qd (And.intro q0 (And.intro q1 (And.intro q2 (And.intro q3 hlt))))
 clear h hi hc hn2 H1 G1 Fa hn4 q0 q1 q2 q3 hlt
 go_enter Tryz.func87,Tryz.ntmps87
 go_wp2_with (go_at_call 42;refine (Cl.out _).mono ?_;rintro e2 w2 ⟨rfl,rfl⟩)
 revert HA HG Q
 generalize (w.setCell ⟨g,27,none⟩ (.int .i64 n1)).alloc (.cells #[.int .u16 c,.int .u8 t,.int .u8 f,.int .u32 k] 76)=wx
 intro HA HG Q
 obtain ⟨q0,q1,q2,q3,hlt⟩:=Q.out
 have cn:=HA.out.cn
 have d0:(0:Int)≤(d:Int):=by omega
 have d1:(d:Int)<4294967296:=by omega
 have n10:(0:Int)≤(n1:Int):=by omega
 have n11:(n1:Int)≤5001:=by omega
 have hw:IntKind.i64.wrap (n3:Int)=n3:=IntWalk.i64_in _ (by omega)
 dsimp only at cn
 clear Q fn hgl hlt hd
 go_region_with (go_at_call 127;refine (Fa1.out _ (HA.out.kept (Below.refl _ _).drew)).mono ?_;rintro e3 w3 ⟨rfl,hb3⟩;have HM:=qd ((HA.out.kept (Below.refl _ _).drew).kept hb3);have HB3:=qd (only_trans (only_drew wx g) (only_of hb3 g));have c3:=HM.out.cn;have f3:=HM.out.b.fz 27;dsimp only at c3;clear hb3)
 all_goals
  go_wp2_with fail
  go_end0
  exact ⟨rfl,HM.out.sn n3,only_trans HG.out (only_trans HB3.out (only_set w3 g 27 (.int .i64 n3)))⟩
theorem step_any (bs:List Nat)(g:Nat)(s:Mc)(y:Nat)(i:Ins)(w:World)(h:Mach w g (Rec.recL bs) s false y)(hb:Rec.IsRec bs)(hs:s.ok)(hi:i.ok)(hk:knownB i.c=true)(hr:rangeB i=true)(hn:s.nx≤5000) :
  Calls Tryz.prog 87 #[.pointer (some ⟨g,0,none⟩),.agg #[.int .u16 i.c,.int .u8 i.t,.int .u8 i.f,.int .u32 i.k]] w (MachTo w g (Rec.recL bs) (stepN (recW bs) i s).1 (stepN (recW bs) i s).2.isSome ((stepN (recW bs) i s).2.getD y)):=by
 have hs1:({ s with nx:=s.nx+1 }:Mc).ok:=⟨hs.a,hs.x,hs.m,hs.ms⟩
 have hcl:i.c%8=0∨i.c%8=1∨i.c%8=2∨i.c%8=3∨i.c%8=4∨i.c%8=5∨i.c%8=6∨i.c%8=7:=by omega
 have hc:i.c∈codesL:=by simpa [knownB] using hk
 simp only [codesL,List.mem_cons,List.not_mem_nil,or_false] at hc
 rcases hcl with e|e|e|e|e|e|e|e
 ·have hst:stepN (recW bs) i s=({ s with a:=ldN (recW bs) i s.m,nx:=s.nx+1 },none):=by unfold stepN;rw [if_pos e]
  rw [hst]
  exact step_0 _ g _ s y i w h hi hn e (fun w1 h1=>loaded_any bs g { s with nx:=s.nx+1 } false y i w1 h1 hb hi hk hr (.inl e))
 ·have hst:stepN (recW bs) i s=({ s with x:=ldN (recW bs) i s.m,nx:=s.nx+1 },none):=by unfold stepN;rw [if_neg (by omega),if_pos e]
  rw [hst]
  exact step_1 _ g _ s y i w h hi hn e (fun w1 h1=>loaded_any bs g { s with nx:=s.nx+1 } false y i w1 h1 hb hi hk hr (.inr e))
 ·have hst:stepN (recW bs) i s=({ s with m:=s.m.set i.k s.a,nx:=s.nx+1 },none):=by unfold stepN;rw [if_neg (by omega),if_neg (by omega),if_pos e]
  rw [hst]
  exact step_2 g _ s y i w h hi hn e (scratch_lt hr (by omega))
 ·have hst:stepN (recW bs) i s=({ s with m:=s.m.set i.k s.x,nx:=s.nx+1 },none):=by unfold stepN;rw [if_neg (by omega),if_neg (by omega),if_neg (by omega),if_pos e]
  rw [hst]
  exact step_3 g _ s y i w h hi hn e (scratch_lt hr (by omega))
 ·by_cases h0:i.c / 16=3∧opd i s=0
  ·have hst:stepN (recW bs) i s=({ s with nx:=s.nx+1 },some 0):=by unfold stepN;rw [if_neg (by omega),if_neg (by omega),if_neg (by omega),if_neg (by omega),if_pos e,if_pos h0]
   rw [hst]
   exact step_4 _ _ _ g _ s y i w h hi hn e (fun w1 h1=>by have:=reckon_any g _ { s with nx:=s.nx+1 } false y i w1 h1 hs1 hi hk e;rw [if_pos (show i.c / 16=3∧opd i { s with nx:=s.nx+1 }=0 from h0)] at this;exact this)
  ·have hst:stepN (recW bs) i s=({ s with a:=reckN (i.c / 16) s.a (opd i s),nx:=s.nx+1 },none):=by unfold stepN;rw [if_neg (by omega),if_neg (by omega),if_neg (by omega),if_neg (by omega),if_pos e,if_neg h0]
   rw [hst]
   exact step_4 _ _ _ g _ s y i w h hi hn e (fun w1 h1=>by have:=reckon_any g _ { s with nx:=s.nx+1 } false y i w1 h1 hs1 hi hk e;rw [if_neg (show ¬(i.c / 16=3∧opd i { s with nx:=s.nx+1 }=0) from h0)] at this;exact this)
 ·have hst:stepN (recW bs) i s=({ s with nx:=s.nx+1+farN i s },none):=by unfold stepN;rw [if_neg (by omega),if_neg (by omega),if_neg (by omega),if_neg (by omega),if_neg (by omega),if_pos e]
  rw [hst]
  have hd:farN i s<4294967296:=by have:=hi.2.1;have:=hi.2.2.1;have:=hi.2.2.2;unfold farN;split;omega;split<;>omega
  exact step_5 _ g _ s y i w h hi hn e hd (fun w1 h1=>far_any g _ { s with nx:=s.nx+1 } false y i w1 h1 hs1 hi hk e)
 ·have hst:stepN (recW bs) i s=({ s with nx:=s.nx+1 },some (if i.c=22 then s.a else i.k)):=by unfold stepN;rw [if_neg (by omega),if_neg (by omega),if_neg (by omega),if_neg (by omega),if_neg (by omega),if_neg (by omega),if_pos e]
  rw [hst]
  exact step_6 _ g _ s y i w h hi hn e (fun w1 h1=>answer_any g _ { s with nx:=s.nx+1 } false y i w1 h1 (by omega))
 ·by_cases h7:i.c=7
  ·have hst:stepN (recW bs) i s=({ s with x:=s.a,nx:=s.nx+1 },none):=by unfold stepN;rw [if_neg (by omega),if_neg (by omega),if_neg (by omega),if_neg (by omega),if_neg (by omega),if_neg (by omega),if_neg (by omega),if_pos h7]
   rw [hst]
   exact step_7 _ _ _ g _ s y i w h hi hn e (fun w1 h1=>by have:=hand_any g _ { s with nx:=s.nx+1 } false y i w1 h1 hi.1 (by omega);rwa [if_pos h7] at this)
  ·have hst:stepN (recW bs) i s=({ s with a:=s.x,nx:=s.nx+1 },none):=by unfold stepN;rw [if_neg (by omega),if_neg (by omega),if_neg (by omega),if_neg (by omega),if_neg (by omega),if_neg (by omega),if_neg (by omega),if_neg h7]
   rw [hst]
   exact step_7 _ _ _ g _ s y i w h hi hn e (fun w1 h1=>by have:=hand_any g _ { s with nx:=s.nx+1 } false y i w1 h1 hi.1 (by omega);rwa [if_neg h7] at this)
end Go.Proofs.YtcnebdjhhfnmoaaGreatDoor
namespace Go.Proofs.YtcnebdjhhfnmoaaGreatDoor
open Go.RowKit
structure Fil (w:World)(B p b o c:Nat)(l:List Ins)(rn st:Nat):Prop where
 lp:p<B
 lb:b<B
 ne:b≠p
 le:B≤w.heap.size
 bk:Bk w p 139 [.slice (some ⟨b,o,none⟩) l.length c,.int .i64 rn,.int .i64 st]
 cs:∀j u,(l.flatMap Ins.cells)[j]?=some u→w.cell? ⟨b,o+j,none⟩=some u
section
variable {w w':World} {B B' p b o c:Nat} {l:List Ins} {rn st:Nat}
theorem Fil.below (h:Fil w B p b o c l rn st)(hb:Below B w w'):Fil w' B p b o c l rn st:=
 ⟨h.lp,h.lb,h.ne,Nat.le_trans h.le hb.size,(hb.block p h.lp).trans h.bk,fun j u hu=>by
  rw [hb.cell (p:=⟨b,o+j,none⟩) h.lb];exact h.cs j u hu⟩
theorem Fil.more (h:Fil w B p b o c l rn st)(h1:B≤B')(h2:B'≤w.heap.size):Fil w B' p b o c l rn st:=
 ⟨Nat.lt_of_lt_of_le h.lp h1,Nat.lt_of_lt_of_le h.lb h1,h.ne,h2,h.bk,h.cs⟩
theorem Fil.less (h:Fil w B' p b o c l rn st)(h1:p<B)(h2:b<B)(h3:B≤w.heap.size):Fil w B p b o c l rn st:=⟨h1,h2,h.ne,h3,h.bk,h.cs⟩
theorem Fil.other {q:Nat}(h:Fil w B p b o c l rn st)(hg:w.grownBy w' (some q))(h1:p≠q)(h2:b≠q):Fil w' B p b o c l rn st:=by
 have hp:=Nat.lt_of_lt_of_le h.lp h.le
 have hb:=Nat.lt_of_lt_of_le h.lb h.le
 refine ⟨h.lp,h.lb,h.ne,Nat.le_trans h.le hg.size,(hg.block p hp (fun e=>h1 (by cases e;rfl))).trans h.bk,fun j u hu=>?_⟩
 rw [←h.cs j u hu]
 unfold World.cell?
 rw [hg.block b hb (fun e=>h2 (by cases e;rfl))]
theorem Fil.told (h:Fil w B p b o c l rn st)(rn' st':Nat):Fil ((w.setCell ⟨p,2,none⟩ (.int .i64 st')).setCell ⟨p,1,none⟩ (.int .i64 rn')) B p b o c l rn' st':=by
 have hg:=only_trans (only_set w p 2 (.int .i64 st')) (only_set _ p 1 (.int .i64 rn'))
 have hb:=Nat.lt_of_lt_of_le h.lb h.le
 refine ⟨h.lp,h.lb,h.ne,Nat.le_trans h.le hg.size,(h.bk.set 2 _).set 1 _,fun j u hu=>?_⟩
 rw [←h.cs j u hu]
 unfold World.cell?
 rw [hg.block b hb (fun e=>h.ne (by cases e;rfl))]
end
theorem add_i64 (a:Addr)(n y s:Int)(w:World)(hc:w.cell? a=some (.int .i64 n))(hz:w.frozen? a=false)(hs:IntKind.i64.wrap (n+y)=s) :
  Calls Tryz.prog 131 #[.pointer (some a),.int .i64 y] w fun e w'=>e=.returned (.int .i64 s)∧w'=w.setCell a (.int .i64 s):=by
 have hadd:=run_call_add (P:=Tryz.prog) Tryz.func162 (by kernel_rfl) (by kernel_rfl) (by kernel_rfl) .i64 (by kernel_rfl) (y:=y) (s:=s) hc hz (by simp [go_sem,hs])
 clear hs
 go_enter Tryz.func131,Tryz.ntmps131
 go_wp2
 go_ret
 exact ⟨rfl,rfl⟩
def Small40 (n:Nat):Prop:=n<1099511627776
theorem count_any (w:World)(B p b o c:Nat)(l:List Ins)(rn st n:Nat)(h:Fil w B p b o c l rn st)(h1:Small40 rn)(h2:Small40 st)(h3:n≤5000) :
  Calls Tryz.prog 88 #[.pointer (some ⟨p,0,none⟩),.int .i64 n] w fun e w'=>e=.returned (.tuple #[])∧(Fil w' B p b o c l (rn+1) (st+n)∧w.grownBy w' (some p)):=by
 unfold Small40 at h1 h2
 obtain ⟨r1,hr1,hr2⟩:∃r1:Nat,IntKind.i64.wrap ((rn:Int)+1)=(r1:Int)∧r1=rn+1:=⟨rn+1,by rw [IntWalk.i64_in _ (by omega)];omega,rfl⟩
 obtain ⟨s1,hs1,hs2⟩:∃s1:Nat,IntKind.i64.wrap ((st:Int)+n)=(s1:Int)∧s1=st+n:=⟨st+n,by rw [IntWalk.i64_in _ (by omega)];omega,rfl⟩
 rw [←hr2,←hs2]
 have HF:=qd (h.told r1 s1)
 have HG:=qd (only_trans (only_set w p 2 (.int .i64 s1)) (only_set _ p 1 (.int .i64 r1)))
 have A2:=qd (add_i64 ⟨p,2,none⟩ st n s1 w (h.bk.cell 2 rfl) (h.bk.fz 2) hs1)
 have A1:=qd (add_i64 ⟨p,1,none⟩ rn 1 r1 (w.setCell ⟨p,2,none⟩ (.int .i64 s1)) ((h.bk.set 2 _).cell 1 rfl) ((h.bk.set 2 _).fz 1) hr1)
 clear h h1 h2 h3 hr1 hr2 hs1 hs2
 go_enter Tryz.func88,Tryz.ntmps88
 go_wp2_with fail
 refine A2.out.mono ?_
 rintro e1 w1 ⟨rfl,rfl⟩
 go_wp2_with fail
 refine A1.out.mono ?_
 rintro e1 w1 ⟨rfl,rfl⟩
 go_wp2_with fail
 go_end0
 exact ⟨rfl,HF.out,HG.out⟩
end Go.Proofs.YtcnebdjhhfnmoaaGreatDoor
namespace Go.Proofs.YtcnebdjhhfnmoaaGreatDoor
open Go.RowKit
theorem forget_any (n a x:Int)(w:World):Calls Tryz.prog 46 #[.agg #[.int .i64 n,.int .u32 a,.int .u32 x]] w fun e w'=>e=.returned (.tuple #[])∧Below w.heap.size w w':=by
 go_enter Tryz.func46,Tryz.ntmps46
 go_wp2_with fail
 go_end0
 exact ⟨rfl,one_below _ _⟩
def z30:List Value:=[.int .u32 0,.int .u32 0,.int .u64 0,.int .u64 0,.int .u64 0,.int .u64 0,.int .u64 0,.int .u64 0,.int .u64 0,.int .u32 0,.int .u32 0,.int .u32 0,.int .u32 0,.int .u32 0,.int .u32 0,.int .u32 0,.int .u32 0,.int .u32 0,.int .u32 0,.int .u32 0,.int .u32 0,.int .u32 0,.int .u32 0,.int .u32 0,.int .u32 0,.int .u32 0,.int .u32 0,.int .i64 0,.bool false,.int .u32 0]
theorem sizeM:(Tryz.prog.info? 202).map (·.size)=some 30:=by kernel_rfl
def RunTo (bs:List Nat)(l:List Ins)(B p b o c rn st:Nat)(w:World)(e:Ending)(w':World):Prop:=
 e=.returned (.tuple #[.int .u32 (runN (recW bs) l).2,.int .i64 (runN (recW bs) l).1.length])∧Fil w' B p b o c l (rn+1) (st+(runN (recW bs) l).1.length)∧w.grownBy w' (some p)
theorem run_done {bs:List Nat}{l:List Ins}{B p b o c rn st q y:Nat}{w wr w3:World}{ts:List (Nat×Nat×Nat)}(hd:runN (recW bs) l=(ts,y))(hF:Fil w B p b o c l rn st)(hb:Below w.heap.size w wr)
  (h3:Fil w3 w.heap.size p b o c l (rn+1) (st+ts.length)) (hg:(wr.drewN q).grownBy w3 (some p)):RunTo bs l B p b o c rn st w (.returned (.tuple #[.int .u32 y,.int .i64 (ts.length:Nat)])) w3:=by
 unfold RunTo
 rw [hd]
 exact ⟨rfl,h3.less hF.lp hF.lb (Nat.le_trans hF.le h3.le),only_trans (only_of (below_drewN hb q) p) hg⟩
structure FMem (bs:List Nat)(l:List Ins)(B g:Nat)(w wr:World)(ts:List (Nat×Nat×Nat))(s:Mc)(e:Bool)(y:Nat):Prop where
 m:Mach wr g (Rec.recL bs) s e y
 bel:Below B w wr
 lt:B≤g
 go:e=false→Live (recW bs) l ts s∧s.ok∧y=2147483648
 out:e=true→runN (recW bs) l=(ts,y)
theorem live_len {W:Nat→Nat}{l:List Ins}{ts:List (Nat×Nat×Nat)}{s:Mc}{i:Ins}(h:Live W l ts s)(hi:l[s.nx]?=some i):ts.length<l.length:=by
 have h1:=run_len W l
 unfold Live at h
 rw [h] at h1
 have h2:0<(rest W l s).1.length:=by
  rcases hs:stepN W i s with ⟨s',_|r⟩
  ·rw [rest_none hi hs];simp
  ·rw [rest_some hi hs];simp
 simp at h1
 omega
theorem FMem.done {bs:List Nat}{l:List Ins}{B g:Nat}{w wr:World}{ts:List (Nat×Nat×Nat)}{s:Mc}{e:Bool}{y:Nat}(h:FMem bs l B g w wr ts s e y)(hd:e=true∨l.length≤s.nx):runN (recW bs) l=(ts,y):=by
 cases he:e with
 | true=>exact h.out he
 | false=>
  rcases hd with h1|h1
  ·rw [he] at h1;cases h1
  ·obtain ⟨h2,_,h3⟩:=h.go he
   rw [h3];exact live_out h2 h1
theorem FMem.kept {bs:List Nat}{l:List Ins}{B g:Nat}{w wr w':World}{ts:List (Nat×Nat×Nat)}{s:Mc}{e:Bool}{y:Nat}(h:FMem bs l B g w wr ts s e y)(hb:Below wr.heap.size wr w'):FMem bs l B g w w' ts s e y:=
 ⟨h.m.kept hb,h.bel.trans (hb.mono (Nat.le_trans h.lt (Nat.le_of_lt h.m.lt))),h.lt,h.go,h.out⟩
theorem FMem.step {bs:List Nat}{l:List Ins}{B g:Nat}{w wr w':World}{ts:List (Nat×Nat×Nat)}{s:Mc}{y:Nat}{i:Ins}(h:FMem bs l B g w wr ts s false y)(hb:Rec.IsRec bs)(hi:l[s.nx]?=some i)(hk:i.k<4294967296)
  (hm:Mach w' g (Rec.recL bs) (stepN (recW bs) i s).1 (stepN (recW bs) i s).2.isSome ((stepN (recW bs) i s).2.getD y)) (hg:Below B w w') :
  FMem bs l B g w w' (ts++[(s.nx,(stepN (recW bs) i s).1.a,(stepN (recW bs) i s).1.x)]) (stepN (recW bs) i s).1 (stepN (recW bs) i s).2.isSome ((stepN (recW bs) i s).2.getD y):=by
 obtain ⟨h1,h2,h3⟩:=h.go rfl
 refine ⟨hm,hg,h.lt,fun he=>?_,fun he=>?_⟩
 ·rcases hs:stepN (recW bs) i s with ⟨s',_|r⟩
  ·have:=step_ok (W:=recW bs) (i:=i) (recW_lt hb) h2 hk
   rw [hs] at this
   exact ⟨live_none h1 hi hs,this,h3⟩
  ·rw [hs] at he;cases he
 ·rcases hs:stepN (recW bs) i s with ⟨s',_|r⟩
  ·rw [hs] at he;cases he
  ·exact live_some h1 hi hs
theorem follow_run (bs:List Nat)(l:List Ins)(B p b o c rn st:Nat)(w:World)(hF:Fil w B p b o c l rn st)(g:Good l)(hok:∀i∈l,i.ok)(hb:Rec.IsRec bs)(h1:Small40 rn)(h2:Small40 st) :
  Calls Tryz.prog 45 #[.pointer (some ⟨p,0,none⟩),.agg (Rec.recL bs).toArray,.func (.func 46) #[] #[]] w (RunTo bs l B p b o c rn st w):=by
 have HF:=qd hF
 have Hg:=qd g
 have Hok:=qd hok
 have Hb:=qd hb
 have Hn:=qd (And.intro h1 h2)
 have hlen:=g.many
 clear hF g hok hb h1 h2
 obtain ⟨v0,v1,v2,v3,v4,v5,v6,v7,v8,hR⟩:∃v0 v1 v2 v3 v4 v5 v6 v7 v8:Int,Rec.recL bs=[.int .u32 v0,.int .u32 v1,.int .u64 v2,.int .u64 v3,.int .u64 v4,.int .u64 v5,.int .u64 v6,.int .u64 v7,.int .u64 v8]:=⟨_,_,_,_,_,_,_,_,_,rfl⟩
 rw [hR]
 have HR:=qd hR
 clear hR
 go_enter Tryz.func45,Tryz.ntmps45
 obtain ⟨R,hRd⟩:∃R:List Value,R=[.int .u32 v0,.int .u32 v1,.int .u64 v2,.int .u64 v3,.int .u64 v4,.int .u64 v5,.int .u64 v6,.int .u64 v7,.int .u64 v8]:=⟨_,rfl⟩
 have hz:=Bk.new (l:=z30) (w.alloc (.cells R.toArray 60)) 202 _ rfl
 have hm0:=hz.row (mac R mc0 false 2147483648)
 have hb0:=only_below (two_below w (.cells R.toArray 60) (.cells z30.toArray 202)) (only_row _ (w.alloc (.cells R.toArray 60)).heap.size (mac R mc0 false 2147483648).toArray) (by simp;omega) (by simp)
 have es:(w.alloc (.cells R.toArray 60)).heap.size=w.heap.size+1:=by simp
 rw [es] at hz hm0 hb0
 have HM0:=qd (show FMem bs l w.heap.size (w.heap.size+1) w (((w.alloc (.cells R.toArray 60)).alloc (.cells z30.toArray 202)).setRow (w.heap.size+1) (mac R mc0 false 2147483648).toArray) [] mc0 false 2147483648 from
  ⟨⟨rfl,rfl,by rw [HR.out,←hRd];exact hm0⟩,hb0,Nat.le_succ _,fun _=>⟨live_0 _ _,mc0_ok,rfl⟩,fun h=>by cases h⟩)
 subst hRd
 have Hz:=qd hz
 clear hm0 hb0 es hz
 go_wp2_with (refine st_row Hz.out rfl _ _ rfl rfl rfl sizeM rfl (l':=mac [.int .u32 v0,.int .u32 v1,.int .u64 v2,.int .u64 v3,.int .u64 v4,.int .u64 v5,.int .u64 v6,.int .u64 v7,.int .u64 v8] mc0 false 2147483648) rfl (by kernel_rfl) ?_)
 go_loopw [9] (fun i wr=>∃ts s e y,i=.int .i64 (ts.length:Nat)∧Hid (FMem bs l w.heap.size (w.heap.size+1) w wr ts s e y)) (fun i _=>l.length+1-(intOf i).toNat)
 case atStart=>exact ⟨[],mc0,false,_,rfl,HM0⟩
 case round=>
  obtain ⟨ts,s,e,y,rfl,HM⟩:=hrel
  clear HM0
  have hM:=HM.out.m
  have hF0:=qd (HF.out.more HF.out.le (Nat.le_refl _))
  have hF:=hF0.out.below HM.out.bel
  have ce:=hM.ce
  have cn:=hM.cn
  have cf:=hF.bk.cell 0 rfl
  have hgl:=hM.lt
  have GO:=qd (fun (w':World) (h:Below wr.heap.size wr w') (q:Nat)=>count_any (w'.drewN q) w.heap.size p b o c l rn st ts.length (hF0.out.below (below_drewN (HM.out.bel.trans (h.mono HM.out.bel.size)) q)) Hn.out.1 Hn.out.2)
  by_cases hgo:e=false∧s.nx<l.length
  ·obtain ⟨rfl,hlt⟩:=hgo
   obtain ⟨i,hi⟩:∃i,l[s.nx]?=some i:=⟨_,List.getElem?_eq_getElem hlt⟩
   obtain ⟨q0,q1,q2,q3⟩:=four_cells hF.cs hi
   have hok:=Hok.out i (List.mem_of_getElem? hi)
   obtain ⟨hk1,_,hk3⟩:=alone_zero.1 (Hg.out.each _ _ hi)
   have hlen:=Hg.out.many
   obtain ⟨hgl1,hgl2,_⟩:=HM.out.go rfl
   have hts:=live_len hgl1 hi
   have Stp:=qd (fun w' h=>step_any bs (w.heap.size+1) s y i w' h Hb.out hgl2 hok hk1 hk3 (by omega))
   have Nxt:=qd (fun w' hm hg=>HM.out.step (w':=w') Hb.out hi hok.2.2.2 hm hg)
   obtain ⟨s',hs'⟩:∃s',s'=(stepN (recW bs) i s).1:=⟨_,rfl⟩
   obtain ⟨e',he'⟩:∃e',e'=(stepN (recW bs) i s).2.isSome:=⟨_,rfl⟩
   obtain ⟨y',hy'⟩:∃y',y'=(stepN (recW bs) i s).2.getD y:=⟨_,rfl⟩
   rw [←hs',←he',←hy'] at Stp Nxt
   obtain ⟨k,hk⟩:∃k,k=s.nx:=⟨_,rfl⟩
   rw [←hk] at cn hlt q0 q1 q2 q3 Nxt
   obtain ⟨n,hn⟩:∃n,n=l.length:=⟨_,rfl⟩
   obtain ⟨t,ht⟩:∃t,t=ts.length:=⟨_,rfl⟩
   have d1:decide ((k:Int)<(l.length:Int))=true:=by simpa using hlt
   obtain ⟨ic,it,jf,ik⟩:=i
   dsimp only at *
   have Hts:=qd hts
   clear hn hF hM GO hi hok hk1 hk3 hgl1 hgl2 hs' he' hy' hk hts ht
   go_wp2_with fail
   go_quiet (fail)
   go_wp2_with fail
   refine (Stp.out _ (HM.out.m.kept (below_drewN (Below.refl _ _) _))).mono ?_
   rintro e1 w1 ⟨rfl,hm1,hg1⟩
   have HN:=qd (Nxt.out w1 hm1 (only_below (below_drewN HM.out.bel _) hg1 HM.out.bel.size HM.out.lt))
   have ca:=hm1.ca
   have cx:=hm1.cx
   obtain ⟨a',ha'⟩:∃a',a'=s'.a:=⟨_,rfl⟩
   obtain ⟨x',hx'⟩:∃x',x'=s'.x:=⟨_,rfl⟩
   rw [←ha'] at ca HN
   rw [←hx'] at cx HN
   have hl1:ts.length≤5000:=by have:=Hts.out;omega
   clear hm1 hg1 ha' hx' Stp Nxt HM ce cn cf q0 q1 q2 q3 d1 hlt hgl
   go_wp2_with fail
   refine (forget_any _ _ _ _).mono ?_
   rintro e2 w2 ⟨rfl,hb2⟩
   have HN2:=qd (HN.out.kept hb2)
   clear hb2 ca cx
   go_wp2_with fail
   go_roundw
   case rel=>exact ⟨ts++[(k,a',x')],s',e',y',by rw [List.length_append];go_num,HN2⟩
   case measure=>have:=Hts.out;simp [intOf];omega
  ·have hdone:=HM.out.done (by
    by_cases he:e=true
    ·exact .inl he
    ·exact .inr (by have:e=false:=by simpa using he
                    by_cases h:l.length≤s.nx
                    ·exact h
                    ·exact absurd ⟨this,by omega⟩ hgo))
   have hts:ts.length≤l.length:=by have:=run_len (recW bs) l;rw [hdone] at this;exact this
   have HD:=qd hdone
   have hl1:ts.length≤5000:=by have:=Hg.out.many;omega
   have Cnt:=qd (fun q=>GO.out _ (Below.refl _ _) q hl1)
   have cy:=hM.cy
   obtain ⟨k,hk⟩:∃k,k=s.nx:=⟨_,rfl⟩
   rw [←hk] at cn hgo
   have Hgo:=qd hgo
   clear GO hts hdone hk hF hM
   go_wp2_with fail
   cases e
   ·have hge:¬k<l.length:=by
     have:=Hgo.out
     simp at this ⊢
     omega
    clear hgo
    go_quiet (fail)
    go_wp2_with fail
    refine (Cnt.out _).mono ?_
    rintro e3 w3 ⟨rfl,hf3,hg3⟩
    have HEnd:=qd hf3
    have HG3:=qd hg3
    have cy3:w3.cell? ⟨w.heap.size+1,29,none⟩=some (.int .u32 y):=by
     rw [←cy]
     unfold World.cell?
     rw [hg3.block (w.heap.size+1) hgl (fun e=>by have:=hF0.out.lp;cases e;omega)]
     rfl
    clear hf3 hg3 cy ce cn cf
    go_wp2_with fail
    go_ret2
    exact run_done HD.out HF.out HM.out.bel HEnd.out HG3.out
   ·clear hgo
    go_quiet (fail)
    go_wp2_with fail
    refine (Cnt.out _).mono ?_
    rintro e3 w3 ⟨rfl,hf3,hg3⟩
    have HEnd:=qd hf3
    have HG3:=qd hg3
    have cy3:w3.cell? ⟨w.heap.size+1,29,none⟩=some (.int .u32 y):=by
     rw [←cy]
     unfold World.cell?
     rw [hg3.block (w.heap.size+1) hgl (fun e=>by have:=hF0.out.lp;cases e;omega)]
     rfl
    clear hf3 hg3 cy ce cn cf
    go_wp2_with fail
    go_ret2
    exact run_done HD.out HF.out HM.out.bel HEnd.out HG3.out
end Go.Proofs.YtcnebdjhhfnmoaaGreatDoor
namespace Go.Proofs.YtcnebdjhhfnmoaaGreatDoor
open Go.RowKit
def LoadPost (l:List Ins)(w:World)(e:Ending)(w':World):Prop:=
 ∃a er:Nat,Chk l a er∧Below w.heap.size w w' ∧
  ((Good l∧a=0∧er=0∧∃p b o c,w.heap.size≤p∧w.heap.size≤b∧e=.returned (.tuple #[.pointer (some ⟨p,0,none⟩),.agg #[.int .i64 0,.int .i64 0]])∧Fil w' w'.heap.size p b o c l 0 0) ∨
   (¬Good l∧er≠0∧e=.returned (.tuple #[.pointer none,.agg #[.int .i64 a,.int .i64 er]])))
theorem load_yes {l:List Ins}{w w2:World}{b o cp':Nat}(hc:Chk l 0 0)(hg:Good l)(hb2:Below w.heap.size w w2)(h1:b<w2.heap.size)(h2:w.heap.size≤b)(h3:∀j u,(l.flatMap Ins.cells)[j]?=some u→w2.cell? ⟨b,o+j,none⟩=some u)(h4:w.heap.size+2≤b) :
  LoadPost l w (.returned (.tuple #[.pointer (some ⟨w2.heap.size,0,none⟩),.agg #[.int .i64 0,.int .i64 0]])) (((w2.setCell ⟨w.heap.size,0,none⟩ (.int .i64 0)).setCell ⟨w.heap.size,1,none⟩ (.int .i64 0)).alloc (.cells #[.slice (some ⟨b,o,none⟩) l.length cp',.int .i64 0,.int .i64 0] 139)):=by
 have HE:=agg_below (v0:=.int .i64 0) (v1:=.int .i64 0) hb2
 have es:((w2.setCell ⟨w.heap.size,0,none⟩ (.int .i64 0)).setCell ⟨w.heap.size,1,none⟩ (.int .i64 0)).heap.size=w2.heap.size:=by simp [World.setCell]
 have HP:=Bk.new (l:=[.slice (some ⟨b,o,none⟩) l.length cp',.int .i64 0,.int .i64 0]) ((w2.setCell ⟨w.heap.size,0,none⟩ (.int .i64 0)).setCell ⟨w.heap.size,1,none⟩ (.int .i64 0)) 139 _ rfl
 rw [es] at HP
 have hsz:=hb2.size
 refine ⟨0,0,hc,HE.alloc (by rw [es];exact hsz) _,.inl ⟨hg,rfl,rfl,_,b,o,cp',hsz,h2,rfl,?_⟩⟩
 refine ⟨HP.lt,Nat.lt_trans h1 HP.lt,by omega,Nat.le_refl _,HP,fun j u hu=>?_⟩
 rw [←h3 j u hu]
 have hbel:=(Below.refl w2.heap.size ((w2.setCell ⟨w.heap.size,0,none⟩ (.int .i64 0)).setCell ⟨w.heap.size,1,none⟩ (.int .i64 0))).alloc (by rw [es];exact Nat.le_refl _) (.cells #[.slice (some ⟨b,o,none⟩) l.length cp',.int .i64 0,.int .i64 0] 139)
 rw [hbel.cell (p:=⟨b,o+j,none⟩) h1]
 have hg2:=only_trans (only_set w2 w.heap.size 0 (.int .i64 0)) (only_set _ w.heap.size 1 (.int .i64 0))
 unfold World.cell?
 rw [hg2.block b h1 (fun e=>by cases e;omega)]
theorem load_any (l:List Ins)(n:Nat)(A:Option Addr)(cp:Nat)(w:World)(hl:l.length=n)(hok:∀i∈l,i.ok)(hr:Rd w 4 n A (l.flatMap Ins.cells))(hm:n≤maxLen) :
  Calls Tryz.prog 26 #[.slice A n cp] w (LoadPost l w):=by
 have Ck:=qd (fun w' h=>check_any l n A cp w' hl hok (hr.below h) hm)
 have Cl:=qd (fun w' h hn=>clone_any l n A cp w' hl (hr.below h) hn)
 have Hl:=qd hl
 clear hl hok hr hm
 have es:(w.alloc (.cells #[.int .i64 0,.int .i64 0] 53)).heap.size=w.heap.size+1:=by simp
 have HB0:=qd (one_below w (.cells #[.int .i64 0,.int .i64 0] 53))
 have HA0:=qd (Bk.new (l:=[.int .i64 0,.int .i64 0]) w 53 _ rfl)
 clear es
 go_enter Tryz.func26,Tryz.ntmps26
 go_wp2_with fail
 refine (Ck.out _ HB0.out).mono ?_
 rintro e w1 ⟨a,er,rfl,hc,hb1⟩
 have HA1:=qd (HA0.out.kept hb1)
 have HB1:=qd (HB0.out.trans (hb1.mono HB0.out.size))
 have hlt:w.heap.size<w1.heap.size:=HA1.out.lt
 have HC:=qd hc
 clear hc hb1
 by_cases h0:er=0
 ·subst h0
  obtain rfl:a=0:=Chk.zero HC.out
  have g:=(HC.out.good_iff).1 rfl
  have Hg:=qd g
  clear g
  have hn:n≤65536:=by have:=Hg.out.many;have:=Hl.out;omega
  go_wp2_with fail
  refine (Cl.out _ (HB1.out.alloc HB1.out.size _) hn).mono ?_
  rintro e w2 ⟨A',cp',rfl,hs2,hb2⟩
  obtain ⟨b,o,rfl,hb,hbl,hcs⟩:=hs2.pos (by have:=Hg.out.pos;omega)
  have HB2:=qd ((HB1.out.alloc HB1.out.size _).trans (hb2.mono (by have:=HB1.out.size;simp;omega)))
  have HA2:=qd ((HA1.out.alloc (.cells #[.int .i64 0,.int .i64 0] 53)).kept hb2)
  have HS:=qd (show b<w2.heap.size∧w.heap.size≤b∧(∀j u,(l.flatMap Ins.cells)[j]?=some u→w2.cell? ⟨b,o+j,none⟩=some u)∧w.heap.size+2≤b from ⟨hbl,by have:=HB1.out.size;simp at hb;omega,hcs,by simp at hb;omega⟩)
  have c0:=HA2.out.cell 0 rfl
  have c1:=HA2.out.cell 1 rfl
  have f0:=HA2.out.fz 0
  have f1:=HA2.out.fz 1
  have hlt2:=HA2.out.lt
  have HP:=qd (Bk.new (l:=[.slice (some ⟨b,o,none⟩) l.length cp',.int .i64 0,.int .i64 0]) ((w2.setCell ⟨w.heap.size,0,none⟩ (.int .i64 0)).setCell ⟨w.heap.size,1,none⟩ (.int .i64 0)) 139 _ rfl)
  have HE:=qd (agg_below (v0:=.int .i64 0) (v1:=.int .i64 0) HB2.out)
  have HA3:=qd (((HA2.out.set 0 (.int .i64 0)).set 1 (.int .i64 0)).alloc (.cells #[.slice (some ⟨b,o,none⟩) l.length cp',.int .i64 0,.int .i64 0] 139))
  clear hs2 hb hbl hcs hb2 hlt hn
  go_wp2_with fail
  have r0:=HA3.out.cell 0 rfl
  have r1:=HA3.out.cell 1 rfl
  refine bodyPost_ret (v:=.tuple #[.pointer (some ⟨w2.heap.size,0,none⟩),.agg #[.int .i64 0,.int .i64 0]]) (by simp [results,Tryz.results26,go_sem,r0,r1]) rfl ?_
  exact load_yes HC.out Hg.out HB2.out HS.out.1 HS.out.2.1 HS.out.2.2.1 HS.out.2.2.2
 ·have e1:((er:Int)==0)=false:=by simp;omega
  have e2:((er:Int) != 0)=true:=by simp;omega
  have Hng:=qd (fun g=>h0 (HC.out.good_iff.2 g))
  have H0:=qd h0
  clear h0
  have HB2:=qd (HB1.out.alloc HB1.out.size (.cells #[.int .i64 a,.int .i64 er] 53))
  have c0:=HA1.out.cell 0 rfl
  have c1:=HA1.out.cell 1 rfl
  have f0:=HA1.out.fz 0
  have f1:=HA1.out.fz 1
  have HA3:=qd (((HA1.out.set 0 (.int .i64 a)).set 1 (.int .i64 er)).alloc (.cells #[.int .i64 a,.int .i64 er] 53))
  go_wp2_with fail
  all_goals
   go_region
   all_goals
    go_wp2_with fail
    have r0:=HA3.out.cell 0 rfl
    have r1:=HA3.out.cell 1 rfl
    refine bodyPost_ret (v:=.tuple #[.pointer none,.agg #[.int .i64 a,.int .i64 er]]) (by simp [results,Tryz.results26,go_sem,r0,r1]) rfl ?_
    refine ⟨a,er,HC.out,?_,.inr ⟨Hng.out,H0.out,rfl⟩⟩
    exact (((agg_below (v0:=.int .i64 a) (v1:=.int .i64 er) HB1.out).alloc (by have:=HB1.out.size;simpa [World.setCell] using this) _)).drew
theorem run_any (bs:List Nat)(l:List Ins)(B p b o c rn st:Nat)(w:World)(hF:Fil w B p b o c l rn st)(g:Good l)(hok:∀i∈l,i.ok)(hb:Rec.IsRec bs)(h1:Small40 rn)(h2:Small40 st) :
  Calls Tryz.prog 19 #[.pointer (some ⟨p,0,none⟩),.agg (Rec.recL bs).toArray] w (RunTo bs l B p b o c rn st w):=by
 have Fo:=qd (fun w' h=>follow_run bs l B p b o c rn st w' h g hok hb h1 h2)
 have HF:=qd hF
 have HR:=qd (recL_len bs)
 obtain ⟨x,hx⟩:∃x,x=runN (recW bs) l:=⟨_,rfl⟩
 unfold RunTo at Fo ⊢
 rw [←hx] at Fo ⊢
 obtain ⟨R,hR⟩:∃R,R=Rec.recL bs:=⟨_,rfl⟩
 rw [←hR] at Fo HR ⊢
 have Hbx:=qd (Bk.new w 60 R.toArray rfl)
 clear hF g hok hb h1 h2 hx hR
 go_enter Tryz.func19,Tryz.ntmps19
 go_wp2_with (refine Rec.ld_any Hbx.out rfl _ rfl rfl Tryz.underlying60 Rec.size9 HR.out ?_)
 refine (Fo.out _ (HF.out.below ((Below.refl B w).alloc HF.out.le _))).mono ?_
 rintro e1 w1 ⟨rfl,h4,h5⟩
 have H4:=qd h4
 have H5:=qd (only_trans (only_of (one_below w _) p) h5)
 clear h4 h5
 go_wp2_with fail
 go_ret2
 exact ⟨rfl,H4.out,H5.out⟩
theorem len_any (w:World)(B p b o c:Nat)(l:List Ins)(rn st:Nat)(h:Fil w B p b o c l rn st):Calls Tryz.prog 15 #[.pointer (some ⟨p,0,none⟩)] w fun e w'=>e=.returned (.int .i64 l.length)∧w=w':=by
 have c0:=h.bk.cell 0 rfl
 clear h
 go_enter Tryz.func15,Tryz.ntmps15
 go_wp2_with fail
 go_ret
 exact ⟨rfl,rfl⟩
theorem Fil.rd {w:World}{B p b o c:Nat}{l:List Ins}{rn st:Nat}(h:Fil w B p b o c l rn st):Rd w 4 l.length (some ⟨b,o,none⟩) (l.flatMap Ins.cells):=
 ⟨cells_len l,.inr ⟨b,o,rfl,Nat.lt_of_lt_of_le h.lb h.le,h.cs⟩⟩
end Go.Proofs.YtcnebdjhhfnmoaaGreatDoor
