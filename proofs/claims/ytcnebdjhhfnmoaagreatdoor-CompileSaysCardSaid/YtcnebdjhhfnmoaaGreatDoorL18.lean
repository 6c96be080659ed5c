/- The order of rules: by their calls' numbers, the stronger kinds first. -/
import Derived.Test.YtcnebdjhhfnmoaaGreatDoorL16
import Derived.Test.YtcnebdjhhfnmoaaGreatDoorL14
import Derived.Test.YtcnebdjhhfnmoaaGreatDoorL17
import Derived.Shelf.SlSortCmp.InsertionK
import Derived.Deep.RegionWith
import Derived.Deep.CutRange
import Derived.Test.YtcnebdjhhfnmoaaGreatDoorL15
import Derived.Test.YtcnebdjhhfnmoaaGreatDoorProg
import Derived.WalkKit
import Derived.WalkSpells
import Derived.Lib.Hide
import Derived.Laws.BitsAllLaws
import Derived.Laws.ShiftsVarLaws
import Derived.IntWalk
import Derived.Lib.BitFns
import Derived.Deep.QuietTactic
import Derived.BigQuiet
set_option maxHeartbeats 32000000
set_option maxRecDepth 100000
namespace Go.Proofs.YtcnebdjhhfnmoaaGreatDoor.Ir
open Go.RowKit Go.Shelf Go.Sort Go.Proofs.YtcnebdjhhfnmoaaGreatDoor.Rec
theorem isnan_any (x:Int)(w:World):Calls Tryz.prog 138 #[.int .u32 x] w fun e w'=>e=.returned (.bool false)∧w=w':=by
 go_enter Tryz.func138,Tryz.ntmps138
 go_wp2
 go_ret
 exact ⟨by simp,rfl⟩
theorem compare_any (x y:Int)(w:World):Calls Tryz.prog 101 #[.int .u32 x,.int .u32 y] w fun e w'=>e=.returned (.int .i64 (if x<y then -1 else if y<x then 1 else 0))∧w=w':=by
 by_cases h1:x<y
 ·rw [if_pos h1]
  go_enter Tryz.func101,Tryz.ntmps101
  go_wp2_with (go_at_call 138;refine (isnan_any _ _).mono ?_;rintro e w1 ⟨rfl,rfl⟩)
  go_ret
  exact ⟨rfl,rfl⟩
 ·rw [if_neg h1]
  by_cases h2:y<x
  ·rw [if_pos h2]
   go_enter Tryz.func101,Tryz.ntmps101
   go_wp2_with (go_at_call 138;refine (isnan_any _ _).mono ?_;rintro e w1 ⟨rfl,rfl⟩)
   go_ret
   exact ⟨rfl,rfl⟩
  ·rw [if_neg h2]
   go_enter Tryz.func101,Tryz.ntmps101
   go_wp2_with (go_at_call 138;refine (isnan_any _ _).mono ?_;rintro e w1 ⟨rfl,rfl⟩)
   go_ret
   exact ⟨rfl,rfl⟩
def RV:={ r:RuleV // r.m.num<4294967296∧r.m.act<4294967296 }
instance:Inhabited RV:=⟨⟨⟨⟨0,0,[]⟩,none,0⟩,by decide,by decide⟩⟩
def RV.enc (x:RV):List Value:=x.1.cells
def ordF (a b:RuleM):Int:=if a.num<b.num then -1 else if b.num<a.num then 1 else if strN b.act<strN a.act then -1 else if strN a.act<strN b.act then 1 else 0
def cf (x y:RV):Int:=ordF x.1.m y.1.m
theorem strN_lt (a:Nat):strN a≤3:=by unfold strN;split;omega;split;omega;split<;>omega
theorem kd_inj {s t:Nat}(hs:s≤3)(ht:t≤3)(h:kdOf s=kdOf t):s=t:=by
 rcases (show s=0∨s=1∨s=2∨s=3 by omega) with rfl|rfl|rfl|rfl<;>rcases (show t=0∨t=1∨t=2∨t=3 by omega) with rfl|rfl|rfl|rfl<;>revert h<;>decide
theorem kd_str {s:Nat}(hs:s≤3):strN (kdOf s)=s:=by
 rcases (show s=0∨s=1∨s=2∨s=3 by omega) with rfl|rfl|rfl|rfl<;>decide
theorem kd_lt (s:Nat):kdOf s<4294967296:=by unfold kdOf;split;omega;split;omega;split<;>omega
theorem stg_kd {s t:Nat}(hs:s≤3)(ht:t≤3):stg (kdOf s) (kdOf t)=if s<t then kdOf t else kdOf s:=by unfold stg;rw [kd_str hs,kd_str ht]
theorem swo:SWO (ltOf cf):=by
 have hd:∀x y:RV,ltOf cf x y=true↔x.1.m.num<y.1.m.num∨x.1.m.num=y.1.m.num∧strN y.1.m.act<strN x.1.m.act:=fun x y=>by
  unfold ltOf cf ordF
  rw [decide_eq_true_iff]
  by_cases h1:x.1.m.num<y.1.m.num
  ·simp [h1]
  ·by_cases h2:y.1.m.num<x.1.m.num
   ·simp [h1,h2];omega
   ·by_cases h3:strN y.1.m.act<strN x.1.m.act
    ·simp [h1,h2,h3];omega
    ·by_cases h4:strN x.1.m.act<strN y.1.m.act<;>simp [h1,h2,h3,h4]
 have hn:∀x y:RV,ltOf cf x y=false↔¬(x.1.m.num<y.1.m.num∨x.1.m.num=y.1.m.num∧strN y.1.m.act<strN x.1.m.act):=fun x y=>by rw [←hd,Bool.not_eq_true]
 refine ⟨fun x=>(hn x x).2 (by omega),fun x y z h1 h2=>?_,fun x y z h1 h2=>?_⟩
 ·rw [hd] at *;omega
 ·rw [hn] at *;omega
theorem order_any (x y:RuleV)(hx:x.m.num<4294967296∧x.m.act<4294967296)(hy:y.m.num<4294967296∧y.m.act<4294967296)(W:World) :
  Calls Tryz.prog 57 #[.agg x.cells.toArray,.agg y.cells.toArray] W fun e w'=>e=.returned (.int .i64 (ordF x.m y.m))∧∃q os',w'=grow (W.drewN q) os':=by
 obtain ⟨⟨n,a,cs⟩,A,cp⟩:=x
 obtain ⟨⟨n',a',cs'⟩,A',cp'⟩:=y
 show Calls Tryz.prog 57 #[.agg #[.int .u32 n,.int .u32 a,.slice A cs.length cp],.agg #[.int .u32 n',.int .u32 a',.slice A' cs'.length cp']] W fun e w'=>e=.returned (.int .i64 (ordF ⟨n,a,cs⟩ ⟨n',a',cs'⟩))∧∃q os',w'=grow (W.drewN q) os'
 generalize cs.length=z
 generalize cs'.length=z'
 have hc:=compare_any (n:Int) (n':Int)
 have hk:=fun w=>kind_any a w hx.2
 have hk':=fun w=>kind_any a' w hy.2
 have hs:=fun w=>stronger_any (kdOf (strN a)) (kdOf (strN a')) w (kd_lt _) (kd_lt _)
 have b1:=strN_lt a
 have b2:=strN_lt a'
 simp only [stg_kd b1 b2] at hs
 by_cases h1:n<n'
 ·have e0:ordF ⟨n,a,cs⟩ ⟨n',a',cs'⟩=-1:=by simp [ordF,h1]
  simp only [show ((n:Int)<(n':Int)) from by omega,if_true] at hc
  rw [e0]
  go_enter Tryz.func57,Tryz.ntmps57
  go_wp2_with (go_at_call 101;refine (hc _).mono ?_;rintro e w1 ⟨rfl,rfl⟩)
  go_ret
  exact ⟨rfl,0,_,by rw [alloc_eq_grow,alloc_eq_grow,grow_grow];rfl⟩
 ·by_cases h2:n'<n
  ·have e0:ordF ⟨n,a,cs⟩ ⟨n',a',cs'⟩=1:=by simp [ordF,h1,h2]
   simp only [show ¬((n:Int)<(n':Int)) from by omega,show ((n':Int)<(n:Int)) from by omega,if_true,if_false] at hc
   rw [e0]
   go_enter Tryz.func57,Tryz.ntmps57
   go_wp2_with (go_at_call 101;refine (hc _).mono ?_;rintro e w1 ⟨rfl,rfl⟩)
   go_ret
   exact ⟨rfl,0,_,by rw [alloc_eq_grow,alloc_eq_grow,grow_grow];rfl⟩
  ·simp only [show ¬((n:Int)<(n':Int)) from by omega,show ¬((n':Int)<(n:Int)) from by omega,if_false] at hc
   have e0:ordF ⟨n,a,cs⟩ ⟨n',a',cs'⟩=if strN a'<strN a then -1 else if strN a<strN a' then 1 else 0:=by simp [ordF,h1,h2]
   rw [e0]
   have hi:kdOf (strN a)=kdOf (strN a')↔strN a=strN a':=⟨kd_inj b1 b2,fun h=>by rw [h]⟩
   generalize kdOf (strN a)=ka at hk hs hi
   generalize kdOf (strN a')=kb at hk' hs hi
   clear b1 b2 e0
   by_cases h3:strN a=strN a'
   ·rw [if_neg (by omega),if_neg (by omega)]
    obtain rfl:ka=kb:=hi.2 h3
    clear hs hi h3 h1 h2 hx hy
    go_enter Tryz.func57,Tryz.ntmps57
    go_wp2_with (go_at_call 101;refine (hc _).mono ?_;rintro e w1 ⟨rfl,rfl⟩)
    go_cut [6,7] from 16 to 21 (fun s6 s7 wx=>s6=.int .u32 ka∧s7=.int .u32 ka∧∃q os',wx=grow (W.drewN q) os')
    case first=>
     go_region_with (go_at_call 102;first|(with_reducible refine (hk _).mono ?_;rintro e w1 ⟨rfl,rfl⟩)|(with_reducible refine (hk' _).mono ?_;rintro e w1 ⟨rfl,rfl⟩))
     all_goals (go_wp2_with fail;go_meet;case rel=>exact ⟨rfl,rfl,1,_,by rw [alloc_eq_grow,alloc_eq_grow,grow_grow];rfl⟩)
    obtain ⟨rfl,rfl,hgw⟩:=hcut
    go_wp2_with fail
    go_ret
    exact ⟨rfl,hgw⟩
   ·have hq:¬(ka:Int)=(kb:Int):=fun h=>h3 (hi.1 (by omega))
    by_cases h4:strN a<strN a'
    ·rw [if_neg (by omega),if_pos h4]
     simp only [h4,if_true] at hs
     have hq2:¬(kb:Int)=(ka:Int):=fun h=>hq h.symm
     clear hi h3 h4 h1 h2 hx hy
     go_enter Tryz.func57,Tryz.ntmps57
     go_wp2_with (go_at_call 101;refine (hc _).mono ?_;rintro e w1 ⟨rfl,rfl⟩)
     go_cut [6,7] from 16 to 21 (fun s6 s7 wx=>s6=.int .u32 ka∧s7=.int .u32 kb∧∃q os',wx=grow (W.drewN q) os')
     case first=>
      go_region_with (go_at_call 102;first|(with_reducible refine (hk _).mono ?_;rintro e w1 ⟨rfl,rfl⟩)|(with_reducible refine (hk' _).mono ?_;rintro e w1 ⟨rfl,rfl⟩))
      all_goals (go_wp2_with fail;go_meet;case rel=>exact ⟨rfl,rfl,1,_,by rw [alloc_eq_grow,alloc_eq_grow,grow_grow];rfl⟩)
     obtain ⟨rfl,rfl,hgw⟩:=hcut
     go_wp2_with (go_at_call 103;refine (hs _).mono ?_;rintro e w1 ⟨rfl,rfl⟩)
     go_ret
     exact ⟨rfl,hgw⟩
    ·rw [if_pos (by omega)]
     simp only [h4,if_false] at hs
     clear hi h3 h4 h1 h2 hx hy
     go_enter Tryz.func57,Tryz.ntmps57
     go_wp2_with (go_at_call 101;refine (hc _).mono ?_;rintro e w1 ⟨rfl,rfl⟩)
     go_cut [6,7] from 16 to 21 (fun s6 s7 wx=>s6=.int .u32 ka∧s7=.int .u32 kb∧∃q os',wx=grow (W.drewN q) os')
     case first=>
      go_region_with (go_at_call 102;first|(with_reducible refine (hk _).mono ?_;rintro e w1 ⟨rfl,rfl⟩)|(with_reducible refine (hk' _).mono ?_;rintro e w1 ⟨rfl,rfl⟩))
      all_goals (go_wp2_with fail;go_meet;case rel=>exact ⟨rfl,rfl,1,_,by rw [alloc_eq_grow,alloc_eq_grow,grow_grow];rfl⟩)
     obtain ⟨rfl,rfl,hgw⟩:=hcut
     go_wp2_with (go_at_call 103;refine (hs _).mono ?_;rintro e w1 ⟨rfl,rfl⟩)
     go_ret
     exact ⟨rfl,hgw⟩
theorem cmpLays (blk off size:Nat)(w:World):CmpLays Tryz.prog 57 #[] RV.enc 3 cf blk off size w:=
 fun _ _ _ _ x y=>order_any x.1 y.1 x.2 y.2 _
end Go.Proofs.YtcnebdjhhfnmoaaGreatDoor.Ir
namespace Go.Proofs.YtcnebdjhhfnmoaaGreatDoor.Ir
open Go.RowKit Go.Shelf Go.Sort
theorem never_any (c:CondM)(w:World)(hc:c.ok):Calls Tryz.prog 140 #[.agg c.cells.toArray] w fun e w'=>e=.returned (.bool (neverB c))∧∃os,w'=grow w os:=by
 obtain ⟨a,o,m,v⟩:=c
 show Calls Tryz.prog 140 #[.agg #[.int .i64 a,.int .u8 o,.int .u64 m,.int .u64 v]] w fun e w'=>e=.returned (.bool (neverB ⟨a,o,m,v⟩))∧∃os,w'=grow w os
 have e0:neverB ⟨a,o,m,v⟩=decide (o=3∧v=0∨o=5∧v=18446744073709551615):=rfl
 rw [e0]
 by_cases h1:(o:Int)=3<;>by_cases h2:(v:Int)=0<;>by_cases h3:(o:Int)=5<;>by_cases h4:(v:Int)=18446744073709551615<;>first|(exfalso;omega)|skip
 all_goals
  first|rw [decide_eq_true (show o=3∧v=0∨o=5∧v=18446744073709551615 by omega)]|rw [decide_eq_false (show ¬(o=3∧v=0∨o=5∧v=18446744073709551615) by omega)]
  clear e0 hc
  go_enter Tryz.func140,Tryz.ntmps140
  go_wp2
  go_ret
  exact ⟨by first|rfl|simp_all,_,by rw [alloc_eq_grow]⟩
theorem always_any (c:CondM)(w:World)(hc:c.ok):Calls Tryz.prog 141 #[.agg c.cells.toArray] w fun e w'=>e=.returned (.bool (alwaysB c))∧∃os,w'=grow w os:=by
 obtain ⟨a,o,m,v⟩:=c
 show Calls Tryz.prog 141 #[.agg #[.int .i64 a,.int .u8 o,.int .u64 m,.int .u64 v]] w fun e w'=>e=.returned (.bool (alwaysB ⟨a,o,m,v⟩))∧∃os,w'=grow w os
 have e0:alwaysB ⟨a,o,m,v⟩=decide (0≤a∧a≤5∧(o=6∧v=0∨o=4∧v=18446744073709551615)):=rfl
 rw [e0]
 by_cases ha:a<0
 ·rw [decide_eq_false (by omega)]
  clear e0 hc
  go_enter Tryz.func141,Tryz.ntmps141
  go_wp2
  go_ret
  exact ⟨by first|rfl|simp_all,_,by rw [alloc_eq_grow]⟩
 by_cases hb:6≤a
 ·rw [decide_eq_false (by omega)]
  clear e0 hc
  go_enter Tryz.func141,Tryz.ntmps141
  go_wp2
  go_ret
  exact ⟨by first|rfl|simp_all,_,by rw [alloc_eq_grow]⟩
 have ha2:0≤a:=by omega
 have hb2:a≤5:=by omega
 by_cases h1:(o:Int)=6<;>by_cases h2:(v:Int)=0<;>by_cases h3:(o:Int)=4<;>by_cases h4:(v:Int)=18446744073709551615<;>first|(exfalso;omega)|skip
 all_goals
  first|rw [decide_eq_true (show 0≤a∧a≤5∧(o=6∧v=0∨o=4∧v=18446744073709551615) by omega)]|rw [decide_eq_false (show ¬(0≤a∧a≤5∧(o=6∧v=0∨o=4∧v=18446744073709551615)) by omega)]
  clear e0 hc
  go_enter Tryz.func141,Tryz.ntmps141
  go_wp2
  go_ret
  exact ⟨by first|rfl|simp_all,_,by rw [alloc_eq_grow]⟩
end Go.Proofs.YtcnebdjhhfnmoaaGreatDoor.Ir
namespace Go.Proofs.YtcnebdjhhfnmoaaGreatDoor.Rt
open Go.RowKit
def hasB (a b:Nat):Bool:=decide (a&&&b=b)
theorem ret_bool {a b:Bool}(h:a=b):Ending.returned (.bool a)=.returned (.bool b):=by rw [h]
theorem ret_int {k:IntKind}{a b:Int}(h:a=b):Ending.returned (.int k a)=.returned (.int k b):=by rw [h]
theorem has_any (a b:Nat)(w:World)(ha:a<65536)(hb:b<65536):Calls Tryz.prog 120 #[.int .u16 a,.int .u16 b] w fun e w'=>e=.returned (.bool (hasB a b))∧w=w':=by
 go_enter Tryz.func120,Tryz.ntmps120
 go_wp2
 go_ret
 refine ⟨ret_bool ?_,rfl⟩
 rw [u16_and_nat a b ha hb,Bool.eq_iff_iff];simp [hasB];omega
theorem valid_any (a:Nat)(w:World)(ha:a<65536):Calls Tryz.prog 37 #[.int .u16 a] w fun e w'=>e=.returned (.bool (decide (a&&&14336=0)))∧w=w':=by
 go_enter Tryz.func37,Tryz.ntmps37
 go_wp2
 go_ret
 refine ⟨ret_bool ?_,rfl⟩
 have e:=u16_andNot_nat a 51199 ha (by omega)
 rw [show ((51199:Nat):Int)=51199 from rfl] at e
 rw [e,Bool.eq_iff_iff];simp
def cnt (n:Nat):Nat:=((List.range 16).filter n.testBit).length
end Go.Proofs.YtcnebdjhhfnmoaaGreatDoor.Rt
