/- The opening fact. -/
import Derived.Deep.CutRange
import Derived.Deep.CutBlock
import Derived.StillTailTactics
import Derived.Outline
import Derived.Deep.RegionHeld3
import Derived.Deep.RegionLaw
import Derived.OwnWalk
import Derived.Deep.LoopGhost
import Derived.Laws.RangeAny
import Derived.Laws.OwnMore
import Derived.Test.YtcnebdjhhfnmoaaGreatDoorL14
import Derived.Deep.QuietTactic
import Derived.Deep.RegionWith
import Derived.BigQuiet
import Derived.Test.YtcnebdjhhfnmoaaGreatDoorL03
import Derived.Laws.BitsAllLaws
import Derived.Test.YtcnebdjhhfnmoaaGreatDoorL16
import Derived.Test.YtcnebdjhhfnmoaaGreatDoorL18
import Derived.Test.YtcnebdjhhfnmoaaGreatDoorL01
set_option maxHeartbeats 32000000
set_option maxRecDepth 100000
namespace Go.Proofs.YtcnebdjhhfnmoaaGreatDoor
open Go.RowKit
def Same9 (v:Value)(w:World)(e:Ending)(w':World):Prop:=e=.returned v∧w=w'
end Go.Proofs.YtcnebdjhhfnmoaaGreatDoor
namespace Go.Proofs.YtcnebdjhhfnmoaaGreatDoor
open Go.RowKit
def RetE (n:Nat)(w:World)(e:Ending)(w':World):Prop:=e=.returned (.int .i64 n)∧Below w.heap.size w w'
theorem ret_of {n k:Nat}{w w':World}{e:Ending}(h:n=k)(he:e=.returned (.int .i64 k))(hb:Below w.heap.size w w'):RetE n w e w':=by subst h;exact ⟨he,hb⟩
theorem known_anyP (op:Nat)(w:World):Calls Tryz.prog 115 #[.int .u8 op] w (Same9 (.bool (decide (1≤op∧op≤7))) w):=by
 by_cases h1:1≤op
 ·have g1:(1:Int)≤(op:Int):=by omega
  have d1:decide ((1:Int)≤(op:Int))=true:=decide_eq_true g1
  by_cases h2:op≤7
  ·have g2:(op:Int)≤7:=by omega
   have d2:decide ((op:Int)≤7)=true:=decide_eq_true g2
   rw [decide_eq_true (show 1≤op∧op≤7 from ⟨h1,h2⟩)]
   clear h1 h2
   go_enter Tryz.func115,Tryz.ntmps115
   go_wp2
   go_ret
   exact ⟨rfl,rfl⟩
  ·have g2:¬(op:Int)≤7:=by omega
   have d2:decide ((op:Int)≤7)=false:=decide_eq_false g2
   rw [decide_eq_false (show ¬(1≤op∧op≤7) from fun h=>h2 h.2)]
   clear h1 h2
   go_enter Tryz.func115,Tryz.ntmps115
   go_wp2
   go_ret
   exact ⟨rfl,rfl⟩
 ·have g1:¬(1:Int)≤(op:Int):=by omega
  have d1:decide ((1:Int)≤(op:Int))=false:=decide_eq_false g1
  rw [decide_eq_false (show ¬(1≤op∧op≤7) from fun h=>h1 h.1)]
  clear h1
  go_enter Tryz.func115,Tryz.ntmps115
  go_wp2
  go_ret
  exact ⟨rfl,rfl⟩
theorem bits_left (a b:Nat)(ha:a<18446744073709551616)(hb:b<18446744073709551616):(a&&&(18446744073709551615-b)=0)↔a&&&b=a:=by
 have e:18446744073709551615-b=2 ^ 64-(b+1):=by have:(2:Nat) ^ 64=18446744073709551616:=by decide
                                                omega
 have hb2:b<2 ^ 64:=by have:(2:Nat) ^ 64=18446744073709551616:=by decide
                       omega
 rw [e]
 have hig:∀i,64≤i→a.testBit i=false:=fun i hi=>Nat.testBit_lt_two_pow (Nat.lt_of_lt_of_le ha (by have:=Nat.pow_le_pow_right (show 2 > 0 by omega) hi;simpa using this))
 constructor
 ·intro h
  apply Nat.eq_of_testBit_eq
  intro i
  have:=congrArg (fun n=>Nat.testBit n i) h
  simp only [Nat.testBit_and,Nat.testBit_two_pow_sub_succ hb2,Nat.zero_testBit] at this ⊢
  by_cases hi:i<64
  ·cases h1:a.testBit i<;>cases h2:b.testBit i<;>simp_all
  ·rw [hig i (by omega)];rfl
 ·intro h
  apply Nat.eq_of_testBit_eq
  intro i
  have:=congrArg (fun n=>Nat.testBit n i) h
  simp only [Nat.testBit_and,Nat.testBit_two_pow_sub_succ hb2,Nat.zero_testBit] at this ⊢
  by_cases hi:i<64
  ·cases h1:a.testBit i<;>cases h2:b.testBit i<;>simp_all
  ·rw [hig i (by omega)];rfl
theorem cond_ways (arg:Int)(op mask val:Nat):(arg<0)∨(5<arg)∨(0≤arg∧arg≤5∧op<1)∨(0≤arg∧arg≤5∧7<op)∨(0≤arg∧arg≤5∧1≤op∧op≤6∧mask≠0)∨(0≤arg∧arg≤5∧1≤op∧op≤6∧mask=0)∨(0≤arg∧arg≤5∧op=7∧mask=0)∨(0≤arg∧arg≤5∧op=7∧mask≠0∧val&&&mask≠val)∨(0≤arg∧arg≤5∧op=7∧mask≠0∧val&&&mask=val):=by
 by_cases h1:arg<0
 ·exact .inl h1
 by_cases h2:5<arg
 ·exact .inr (.inl h2)
 by_cases h3:op<1
 ·exact .inr (.inr (.inl ⟨by omega,by omega,h3⟩))
 by_cases h4:7<op
 ·exact .inr (.inr (.inr (.inl ⟨by omega,by omega,h4⟩)))
 by_cases h5:op=7
 ·by_cases h6:mask=0
  ·exact .inr (.inr (.inr (.inr (.inr (.inr (.inl ⟨by omega,by omega,h5,h6⟩))))))
  ·by_cases h7:val&&&mask=val
   ·exact .inr (.inr (.inr (.inr (.inr (.inr (.inr (.inr ⟨by omega,by omega,h5,h6,h7⟩)))))))
   ·exact .inr (.inr (.inr (.inr (.inr (.inr (.inr (.inl ⟨by omega,by omega,h5,h6,h7⟩)))))))
 ·by_cases h6:mask=0
  ·exact .inr (.inr (.inr (.inr (.inr (.inl ⟨by omega,by omega,by omega,by omega,h6⟩)))))
  ·exact .inr (.inr (.inr (.inr (.inl ⟨by omega,by omega,by omega,by omega,h6⟩))))
theorem condCheck_any (arg:Int)(op mask val:Nat)(w:World)(hm:mask<18446744073709551616)(hv:val<18446744073709551616):Calls Tryz.prog 71 #[.agg #[.int .i64 arg,.int .u8 op,.int .u64 mask,.int .u64 val]] w (RetE (condE ⟨arg,op,mask,val⟩) w):=by
 have HB:=qd (show Below w.heap.size w (w.alloc (.cells #[.int .i64 arg,.int .u8 op,.int .u64 mask,.int .u64 val] 89)) from (Below.refl _ _).alloc (Nat.le_refl _) _)
 rcases cond_ways arg op mask val with hA|hA|hA|hA|hA|hA|hA|hA|hA
 ·have HV:=qd (show condE ⟨arg,op,mask,val⟩=204 by unfold condE;simp only;split<;>(try omega)<;>split<;>(try omega)<;>split<;>(try omega)<;>split<;>(try omega)<;>simp_all)
  have a1:arg<0:=by omega
  have da1:decide (arg<0)=true:=decide_eq_true a1
  clear hA hm hv
  go_enter Tryz.func71,Tryz.ntmps71
  go_wp2_with fail
  go_ret
  exact ret_of HV.out rfl HB.out
 ·have HV:=qd (show condE ⟨arg,op,mask,val⟩=204 by unfold condE;simp only;split<;>(try omega)<;>split<;>(try omega)<;>split<;>(try omega)<;>split<;>(try omega)<;>simp_all)
  have a1:¬arg<0:=by omega
  have da1:decide (arg<0)=false:=decide_eq_false a1
  have a2:(6:Int)≤arg:=by omega
  have da2:decide ((6:Int)≤arg)=true:=decide_eq_true a2
  have a3:(5:Int)<arg:=by omega
  have da3:decide ((5:Int)<arg)=true:=decide_eq_true a3
  clear hA hm hv
  go_enter Tryz.func71,Tryz.ntmps71
  go_wp2_with fail
  go_ret
  exact ret_of HV.out rfl HB.out
 ·have HV:=qd (show condE ⟨arg,op,mask,val⟩=210 by unfold condE;simp only;split<;>(try omega)<;>split<;>(try omega)<;>split<;>(try omega)<;>split<;>(try omega)<;>simp_all)
  have a1:¬arg<0:=by omega
  have da1:decide (arg<0)=false:=decide_eq_false a1
  have a2:¬(6:Int)≤arg:=by omega
  have da2:decide ((6:Int)≤arg)=false:=decide_eq_false a2
  have a3:¬(5:Int)<arg:=by omega
  have da3:decide ((5:Int)<arg)=false:=decide_eq_false a3
  have hk:decide (1≤op∧op≤7)=false:=decide_eq_false (by omega)
  have o1:(op:Int)<1:=by omega
  have do1:decide ((op:Int)<1)=true:=decide_eq_true o1
  clear hA hm hv
  have hkn:=fun W=>known_anyP op W
  rw [hk] at hkn
  clear hk
  go_enter Tryz.func71,Tryz.ntmps71
  go_wp2_with fail
  refine (hkn _).mono ?_
  rintro e w' ⟨rfl,rfl⟩
  clear hkn
  go_wp2_with fail
  go_ret
  exact ret_of HV.out rfl HB.out
 ·have HV:=qd (show condE ⟨arg,op,mask,val⟩=210 by unfold condE;simp only;split<;>(try omega)<;>split<;>(try omega)<;>split<;>(try omega)<;>split<;>(try omega)<;>simp_all)
  have a1:¬arg<0:=by omega
  have da1:decide (arg<0)=false:=decide_eq_false a1
  have a2:¬(6:Int)≤arg:=by omega
  have da2:decide ((6:Int)≤arg)=false:=decide_eq_false a2
  have a3:¬(5:Int)<arg:=by omega
  have da3:decide ((5:Int)<arg)=false:=decide_eq_false a3
  have hk:decide (1≤op∧op≤7)=false:=decide_eq_false (by omega)
  have o1:¬(op:Int)<1:=by omega
  have do1:decide ((op:Int)<1)=false:=decide_eq_false o1
  have o2:(7:Int)<(op:Int):=by omega
  have do2:decide ((7:Int)<(op:Int))=true:=decide_eq_true o2
  clear hA hm hv
  have hkn:=fun W=>known_anyP op W
  rw [hk] at hkn
  clear hk
  go_enter Tryz.func71,Tryz.ntmps71
  go_wp2_with fail
  refine (hkn _).mono ?_
  rintro e w' ⟨rfl,rfl⟩
  clear hkn
  go_wp2_with fail
  go_ret
  exact ret_of HV.out rfl HB.out
 ·have HV:=qd (show condE ⟨arg,op,mask,val⟩=203 by unfold condE;simp only;split<;>(try omega)<;>split<;>(try omega)<;>split<;>(try omega)<;>split<;>(try omega)<;>simp_all)
  have a1:¬arg<0:=by omega
  have da1:decide (arg<0)=false:=decide_eq_false a1
  have a2:¬(6:Int)≤arg:=by omega
  have da2:decide ((6:Int)≤arg)=false:=decide_eq_false a2
  have a3:¬(5:Int)<arg:=by omega
  have da3:decide ((5:Int)<arg)=false:=decide_eq_false a3
  have hk:decide (1≤op∧op≤7)=true:=decide_eq_true (by omega)
  have o1:¬(op:Int)<1:=by omega
  have do1:decide ((op:Int)<1)=false:=decide_eq_false o1
  have o2:¬(7:Int)<(op:Int):=by omega
  have do2:decide ((7:Int)<(op:Int))=false:=decide_eq_false o2
  have o3:((op:Int) != 7)=true:=by rw [bne_iff_ne];omega
  have o4:((op:Int)==7)=false:=by rw [beq_eq_false_iff_ne];omega
  have m1:((mask:Int) != 0)=true:=by rw [bne_iff_ne];omega
  have m2:((mask:Int)==0)=false:=by rw [beq_eq_false_iff_ne];omega
  clear hA hm hv
  have hkn:=fun W=>known_anyP op W
  rw [hk] at hkn
  clear hk
  go_enter Tryz.func71,Tryz.ntmps71
  go_wp2_with fail
  refine (hkn _).mono ?_
  rintro e w' ⟨rfl,rfl⟩
  clear hkn
  go_wp2_with fail
  go_ret
  exact ret_of HV.out rfl HB.out
 ·have HV:=qd (show condE ⟨arg,op,mask,val⟩=0 by unfold condE;simp only;split<;>(try omega)<;>split<;>(try omega)<;>split<;>(try omega)<;>split<;>(try omega)<;>simp_all)
  have a1:¬arg<0:=by omega
  have da1:decide (arg<0)=false:=decide_eq_false a1
  have a2:¬(6:Int)≤arg:=by omega
  have da2:decide ((6:Int)≤arg)=false:=decide_eq_false a2
  have a3:¬(5:Int)<arg:=by omega
  have da3:decide ((5:Int)<arg)=false:=decide_eq_false a3
  have hk:decide (1≤op∧op≤7)=true:=decide_eq_true (by omega)
  have o1:¬(op:Int)<1:=by omega
  have do1:decide ((op:Int)<1)=false:=decide_eq_false o1
  have o2:¬(7:Int)<(op:Int):=by omega
  have do2:decide ((7:Int)<(op:Int))=false:=decide_eq_false o2
  have o3:((op:Int) != 7)=true:=by rw [bne_iff_ne];omega
  have o4:((op:Int)==7)=false:=by rw [beq_eq_false_iff_ne];omega
  obtain rfl:mask=0:=by omega
  clear hA hm hv
  have hkn:=fun W=>known_anyP op W
  rw [hk] at hkn
  clear hk
  go_enter Tryz.func71,Tryz.ntmps71
  go_wp2_with fail
  refine (hkn _).mono ?_
  rintro e w' ⟨rfl,rfl⟩
  clear hkn
  go_wp2_with fail
  go_ret
  exact ret_of HV.out rfl HB.out
 ·have HV:=qd (show condE ⟨arg,op,mask,val⟩=204 by unfold condE;simp only;split<;>(try omega)<;>split<;>(try omega)<;>split<;>(try omega)<;>split<;>(try omega)<;>simp_all)
  have a1:¬arg<0:=by omega
  have da1:decide (arg<0)=false:=decide_eq_false a1
  have a2:¬(6:Int)≤arg:=by omega
  have da2:decide ((6:Int)≤arg)=false:=decide_eq_false a2
  have a3:¬(5:Int)<arg:=by omega
  have da3:decide ((5:Int)<arg)=false:=decide_eq_false a3
  obtain rfl:op=7:=by omega
  have hk:decide (1≤7∧7≤7)=true:=by decide
  obtain rfl:mask=0:=by omega
  clear hA hm hv
  have hkn:=fun W=>known_anyP 7 W
  rw [hk] at hkn
  clear hk
  go_enter Tryz.func71,Tryz.ntmps71
  go_wp2_with fail
  refine (hkn _).mono ?_
  rintro e w' ⟨rfl,rfl⟩
  clear hkn
  go_wp2_with fail
  go_ret
  exact ret_of HV.out rfl HB.out
 ·have HV:=qd (show condE ⟨arg,op,mask,val⟩=204 by unfold condE;simp only;split<;>(try omega)<;>split<;>(try omega)<;>split<;>(try omega)<;>split<;>(try omega)<;>simp_all)
  have a1:¬arg<0:=by omega
  have da1:decide (arg<0)=false:=decide_eq_false a1
  have a2:¬(6:Int)≤arg:=by omega
  have da2:decide ((6:Int)≤arg)=false:=decide_eq_false a2
  have a3:¬(5:Int)<arg:=by omega
  have da3:decide ((5:Int)<arg)=false:=decide_eq_false a3
  obtain rfl:op=7:=by omega
  have hk:decide (1≤7∧7≤7)=true:=by decide
  have m1:((mask:Int) != 0)=true:=by rw [bne_iff_ne];omega
  have m2:((mask:Int)==0)=false:=by rw [beq_eq_false_iff_ne];omega
  have b1:(bits .andNot .u64 (val:Int) (mask:Int) != 0)=true:=by rw [u64_andNot_nat _ _ hv hm,bne_iff_ne];have hne:¬(val&&&(18446744073709551615-mask)=0):=fun h=>hA.2.2.2.2 ((bits_left val mask hv hm).1 h);omega
  have b2:(bits .and .u64 (val:Int) (mask:Int) != (val:Int))=true:=by rw [u64_and_nat _ _ hv hm,bne_iff_ne];have:=hA.2.2.2.2;omega
  clear hA hm hv
  have hkn:=fun W=>known_anyP 7 W
  rw [hk] at hkn
  clear hk
  go_enter Tryz.func71,Tryz.ntmps71
  go_wp2_with fail
  refine (hkn _).mono ?_
  rintro e w' ⟨rfl,rfl⟩
  clear hkn
  go_wp2_with fail
  go_ret
  exact ret_of HV.out rfl HB.out
 ·have HV:=qd (show condE ⟨arg,op,mask,val⟩=0 by unfold condE;simp only;split<;>(try omega)<;>split<;>(try omega)<;>split<;>(try omega)<;>split<;>(try omega)<;>simp_all)
  have a1:¬arg<0:=by omega
  have da1:decide (arg<0)=false:=decide_eq_false a1
  have a2:¬(6:Int)≤arg:=by omega
  have da2:decide ((6:Int)≤arg)=false:=decide_eq_false a2
  have a3:¬(5:Int)<arg:=by omega
  have da3:decide ((5:Int)<arg)=false:=decide_eq_false a3
  obtain rfl:op=7:=by omega
  have hk:decide (1≤7∧7≤7)=true:=by decide
  have m1:((mask:Int) != 0)=true:=by rw [bne_iff_ne];omega
  have m2:((mask:Int)==0)=false:=by rw [beq_eq_false_iff_ne];omega
  have b1:(bits .andNot .u64 (val:Int) (mask:Int) != 0)=false:=by rw [u64_andNot_nat _ _ hv hm,(bits_left val mask hv hm).2 hA.2.2.2.2];rfl
  have b2:(bits .and .u64 (val:Int) (mask:Int) != (val:Int))=false:=by rw [u64_and_nat _ _ hv hm,hA.2.2.2.2];simp
  clear hA hm hv
  have hkn:=fun W=>known_anyP 7 W
  rw [hk] at hkn
  clear hk
  go_enter Tryz.func71,Tryz.ntmps71
  go_wp2_with fail
  refine (hkn _).mono ?_
  rintro e w' ⟨rfl,rfl⟩
  clear hkn
  go_wp2_with fail
  go_ret
  exact ret_of HV.out rfl HB.out
end Go.Proofs.YtcnebdjhhfnmoaaGreatDoor
namespace Go.Proofs.YtcnebdjhhfnmoaaGreatDoor
open Go.RowKit
theorem act_num {a:Nat}(h:a<4294967296)(h1:a≠2147483648)(h2:a≠2147221504)(h3:a≠2147418112):actB a=decide (1≤Rec.numN a∧Rec.numN a≤4095):=by
 by_cases h5:a / 65536=5
 ·have e:Rec.numN a=a%65536:=by simp [Rec.numN,Rec.strN,h5]
  rw [e]
  unfold actB
  apply decide_eq_decide.2
  omega
 ·have e2:Rec.strN a≠2:=by
   unfold Rec.strN
   rw [if_neg h5]
   split
   ·omega
   ·split<;>omega
  have e:Rec.numN a=0:=by unfold Rec.numN;rw [if_neg e2]
  rw [e]
  unfold actB
  apply decide_eq_decide.2
  omega
theorem act_yes {a:Nat}(h:a=2147483648∨a=2147221504∨a=2147418112):actB a=true:=by
 unfold actB
 apply decide_eq_true
 omega
def SaysB (b:Bool)(w:World)(e:Ending)(w':World):Prop:=e=.returned (.bool b)∧w=w'
theorem sb_of {b c:Bool}{w w':World}{e:Ending}(h:b=c)(he:e=.returned (.bool c))(hb:w=w'):SaysB b w e w':=by subst h;exact ⟨he,hb⟩
theorem may_any (a:Nat)(w:World)(h:a<4294967296):Calls Tryz.prog 36 #[.int .u32 a] w (SaysB (actB a) w):=by
 by_cases h1:a=2147483648
 ·have HV:=qd (act_yes (.inl h1))
  subst h1
  go_enter Tryz.func36,Tryz.ntmps36
  go_wp2_with fail
  go_ret
  exact sb_of HV.out rfl rfl
 by_cases h2:a=2147221504
 ·have HV:=qd (act_yes (.inr (.inl h2)))
  subst h2
  go_enter Tryz.func36,Tryz.ntmps36
  go_wp2_with fail
  go_ret
  exact sb_of HV.out rfl rfl
 by_cases h3:a=2147418112
 ·have HV:=qd (act_yes (.inr (.inr h3)))
  subst h3
  go_enter Tryz.func36,Tryz.ntmps36
  go_wp2_with fail
  go_ret
  exact sb_of HV.out rfl rfl
 have HV:=qd (act_num h h1 h2 h3)
 have hc:=fun W=>Rec.number_any a W h
 have g1:((a:Int)==2147483648)=false:=by rw [beq_eq_false_iff_ne];omega
 have g2:((a:Int)==2147221504)=false:=by rw [beq_eq_false_iff_ne];omega
 have g3:((a:Int)==2147418112)=false:=by rw [beq_eq_false_iff_ne];omega
 have hlt:Rec.numN a<65536:=by unfold Rec.numN;split<;>omega
 obtain ⟨n,hn⟩:∃n,n=Rec.numN a:=⟨_,rfl⟩
 rw [←hn] at HV hc hlt
 clear h h1 h2 h3 hn
 by_cases k1:1≤n
 ·have e1:(1:Int)≤(n:Int):=by omega
  have d1:decide ((1:Int)≤(n:Int))=true:=decide_eq_true e1
  by_cases k2:n≤4095
  ·have e2:(n:Int)≤4095:=by omega
   have d2:decide ((n:Int)≤4095)=true:=decide_eq_true e2
   have HW:=qd (HV.out.trans (decide_eq_true ⟨k1,k2⟩))
   clear k1 k2 HV
   go_enter Tryz.func36,Tryz.ntmps36
   go_wp2_with fail
   refine (hc _).mono ?_
   rintro e w' ⟨rfl,rfl⟩
   clear hc
   go_wp2_with fail
   go_ret
   exact sb_of HW.out rfl rfl
  ·have e2:¬(n:Int)≤4095:=by omega
   have d2:decide ((n:Int)≤4095)=false:=decide_eq_false e2
   have HW:=qd (HV.out.trans (decide_eq_false (fun h=>k2 h.2)))
   clear k1 k2 HV
   go_enter Tryz.func36,Tryz.ntmps36
   go_wp2_with fail
   refine (hc _).mono ?_
   rintro e w' ⟨rfl,rfl⟩
   clear hc
   go_wp2_with fail
   go_ret
   exact sb_of HW.out rfl rfl
 ·have e1:¬(1:Int)≤(n:Int):=by omega
  have d1:decide ((1:Int)≤(n:Int))=false:=decide_eq_false e1
  have HW:=qd (HV.out.trans (decide_eq_false (fun h=>k1 h.1)))
  clear k1 HV
  go_enter Tryz.func36,Tryz.ntmps36
  go_wp2_with fail
  refine (hc _).mono ?_
  rintro e w' ⟨rfl,rfl⟩
  clear hc
  go_wp2_with fail
  go_ret
  exact sb_of HW.out rfl rfl
theorem mayGrant_any (v0 v1 v2 v4 v5:Value)(h r k:Nat)(w:World)(hh:h<65536)(hr:r<65536)(hk:k<65536):Calls Tryz.prog 73 #[.agg #[v0,v1,v2,.int .u16 h,v4,v5],.int .u16 r,.int .u16 k] w (BoolPost (grantB h r k) w):=by
 have HB:=qd (show Below w.heap.size w (w.alloc (.cells #[v0,v1,v2,.int .u16 h,v4,v5] 30)) from (Below.refl _ _).alloc (Nat.le_refl _) _)
 have c1:=fun W=>Rt.has_any h r W hh hr
 have c2:=fun W=>Rt.has_any k r W hk hr
 rw [show Rt.hasB h r=hasS h r from rfl] at c1
 rw [show Rt.hasB k r=hasS k r from rfl] at c2
 unfold grantB
 by_cases h0:r=0
 ·subst h0
  go_enter Tryz.func73,Tryz.ntmps73
  go_wp2_with fail
  go_ret
  exact ⟨rfl,HB.out⟩
 have g1:((r:Int) != 0)=true:=by rw [bne_iff_ne];omega
 rw [decide_eq_true h0]
 cases e1:hasS h r with
 | false=>
  rw [e1] at c1
  clear e1 h0 c2
  go_enter Tryz.func73,Tryz.ntmps73
  go_wp2_with fail
  refine (c1 _).mono ?_
  rintro e w' ⟨rfl,rfl⟩
  clear c1
  go_wp2_with fail
  go_ret
  exact ⟨rfl,HB.out⟩
 | true=>
  rw [e1] at c1
  clear e1 h0
  go_enter Tryz.func73,Tryz.ntmps73
  go_wp2_with fail
  refine (c1 _).mono ?_
  rintro e w' ⟨rfl,rfl⟩
  clear c1
  go_wp2_with fail
  refine (c2 _).mono ?_
  rintro e w' ⟨rfl,rfl⟩
  clear c2
  go_wp2_with fail
  go_ret
  exact ⟨rfl,HB.out⟩
end Go.Proofs.YtcnebdjhhfnmoaaGreatDoor
namespace Go.Proofs.YtcnebdjhhfnmoaaGreatDoor
open Go.RowKit
theorem grown_of_belowT {w w':World}(h:Below w.heap.size w w'):w.grownBy w' none:=⟨h.os,h.tape,h.output,h.size,fun i hi _=>h.block i hi⟩
def TS (w:World)(tb n:Nat):Prop:=∃a:Int,0≤a∧a≤n∧TState w tb a
theorem TS.lt {w:World}{tb n:Nat}(h:TS w tb n):tb<w.heap.size:=by obtain ⟨_,_,_,h⟩:=h;exact h.lt
theorem TS.alloc {w:World}{tb n:Nat}(h:TS w tb n)(o:Obj):TS (w.alloc o) tb n:=by obtain ⟨a,h1,h2,h⟩:=h;exact ⟨a,h1,h2,h.alloc o⟩
theorem TState.kept {w w':World}{b:Nat}{asked:Int}(h:TState w b asked)(hb:Below w.heap.size w w'):TState w' b asked:=by
 rcases h with ⟨h0,h⟩|h
 ·exact .inl ⟨h0,h.kept (r:=none) (grown_of_belowT hb) (by simp)⟩
 ·exact .inr (h.kept (grown_of_belowT hb) rfl)
theorem TS.kept {w w':World}{tb n:Nat}(h:TS w tb n)(hb:Below w.heap.size w w'):TS w' tb n:=by obtain ⟨a,h1,h2,h⟩:=h;exact ⟨a,h1,h2,h.kept hb⟩
theorem TS.mono {w:World}{tb n m:Nat}(h:TS w tb n)(hm:n≤m):TS w tb m:=by obtain ⟨a,h1,h2,h⟩:=h;exact ⟨a,h1,by omega,h⟩
theorem cond_cells {w:World}{b o k:Nat}{l:List CondM}{x:CondM}(hc:∀k x,l[k]?=some x→∀j v,(CondM.cells x)[j]?=some v→w.cell? ⟨b,o+(k*4+j),none⟩=some v)(h:l[k]?=some x) :
  w.cell? ⟨b,o+k*4,none⟩=some (.int .i64 x.arg)∧w.cell? ⟨b,o+k*4+1,none⟩=some (.int .u8 x.op)∧w.cell? ⟨b,o+k*4+2,none⟩=some (.int .u64 x.mask)∧w.cell? ⟨b,o+k*4+3,none⟩=some (.int .u64 x.val):=
 ⟨by have:=hc k x h 0 _ rfl;simpa using this,by have:=hc k x h 1 _ rfl;simpa [Nat.add_assoc] using this,by have:=hc k x h 2 _ rfl;simpa [Nat.add_assoc] using this,by have:=hc k x h 3 _ rfl;simpa [Nat.add_assoc] using this⟩
theorem grow_alloc {w w1:World}{r:Option Nat}(h:w.grownBy w1 r)(o:Obj):w.grownBy (w1.alloc o) r:=grown_trans h (World.grownBy_alloc w1 o none) (by simp)
theorem grow_below {w w1 w2:World}{r:Option Nat}(h:w.grownBy w1 r)(hb:Below w1.heap.size w1 w2):w.grownBy w2 r:=grown_trans h (grown_of_belowT hb) (by simp)
def RuPost (n tb m:Nat)(w:World)(e:Ending)(w':World):Prop:=e=.returned (.int .i64 n)∧TS w' tb m∧w.grownBy w' (some tb)
theorem ru_of {n k tb m:Nat}{w w':World}{e:Ending}(h:n=k)(he:e=.returned (.int .i64 k))(ht:TS w' tb m)(hg:w.grownBy w' (some tb)):RuPost n tb m w e w':=by subst h;exact ⟨he,ht,hg⟩
theorem rule_any (num act:Nat)(cs:List CondM)(A:Option Addr)(n cap tb m:Nat)(w:World)(hok:RuleM.ok ⟨num,act,cs⟩)(hn:cs.length=n)(hR:Rd w 4 n A (cs.flatMap CondM.cells))(hO:Off n A tb)(hT:TS w tb m)(hm:m≤1000000) :
  Calls Tryz.prog 38 #[.agg #[.int .u32 num,.int .u32 act,.slice A n cap],.pointer (some ⟨tb,0,none⟩)] w (RuPost (ruleE ⟨num,act,cs⟩) tb (m+1) w):=by
 obtain ⟨hnum,hact,hlm,hcs⟩:=hok
 simp only at hnum hact hlm hcs
 have htl:=hT.lt
 obtain ⟨asked,ha0,ha1,hTS⟩:=hT.alloc (.cells #[.int .u32 num,.int .u32 act,.slice A n cap] 86)
 have hnb:=qd (numbered_any tb asked num _ hTS ha0 (by omega) (WalkArith.wf_u32 (by omega)))
 have hnm:n≤9223372036854775807:=by rw [←hn];exact hlm
 have HR:=qd hR
 have HO:=qd hO
 have HC:=qd hcs
 have HN:=qd hn
 clear hR hO hcs hn hlm hTS hT
 go_enter Tryz.func38,Tryz.ntmps38
 go_wp2_with fail
 refine hnb.out.mono ?_
 clear hnb
 rintro e w1 ⟨rfl,hM,hg⟩
 have hbk:=(Bk.new w 86 #[.int .u32 num,.int .u32 act,.slice A n cap] (l:=[.int .u32 num,.int .u32 act,.slice A n cap]) rfl).grown hg (by intro e;have:=Option.some.inj e;omega)
 have hlt1:=hbk.lt
 have q0:=hbk.cell 0 rfl
 have q1:=hbk.cell 1 rfl
 have q2:=hbk.cell 2 rfl
 have HG1:=qd (show w.grownBy w1 (some tb) from grown_trans (r:=some tb) (World.grownBy_alloc w _ (some tb)) hg (fun k hk=>.inl hk))
 have HT1:=qd (show TS w1 tb (m+1) from ⟨asked+1,by omega,by omega,.inr hM⟩)
 have HR1:=qd (HR.out.grownO HO.out HG1.out)
 clear hbk hM hg ha0 ha1 asked HR HO
 obtain ⟨row,hrow⟩:∃row,row=(byNum num).getD zeroRow:=⟨_,rfl⟩
 rw [←hrow]
 have Hrow:=qd hrow
 clear hrow
 cases hsm:(byNum num).isSome with
 | false=>
  have HV:=qd (show ruleE ⟨num,act,cs⟩=38 by unfold ruleE;rw [if_pos hsm])
  clear hsm
  unfold rowV
  go_wp2_with fail
  go_ret
  exact ru_of HV.out rfl (HT1.out.alloc _) (grow_alloc HG1.out _)
 | true=>
  have HSm:=qd (show ¬(byNum num).isSome=false by rw [hsm];simp)
  clear hsm
  unfold rowV
  have hmy:=fun W=>may_any act W hact
  go_wp2_with fail
  refine (hmy _).mono ?_
  rintro e w2 ⟨rfl,rfl⟩
  cases hac:actB act with
  | false=>
   have HV:=qd (show ruleE ⟨num,act,cs⟩=210 by unfold ruleE;rw [if_neg HSm.out,if_pos hac])
   clear hac hmy
   go_wp2_with fail
   go_ret
   exact ru_of HV.out rfl (HT1.out.alloc _) (grow_alloc HG1.out _)
  | true=>
   have HAc:=qd (show ¬actB act=false by rw [hac];simp)
   clear hac hmy
   by_cases h6:6<n
   ·have HV:=qd (show ruleE ⟨num,act,cs⟩=205 by unfold ruleE;rw [if_neg HSm.out,if_neg HAc.out,if_pos (by rw [HN.out];exact h6)])
    have g6:(6:Int)<(n:Int):=by omega
    clear h6
    go_wp2_with fail
    go_ret
    exact ru_of HV.out rfl (HT1.out.alloc _) (grow_alloc HG1.out _)
   have HV:=qd (show ruleE ⟨num,act,cs⟩=firstE (fun _ c=>condE c) 0 cs by unfold ruleE;rw [if_neg HSm.out,if_neg HAc.out,if_neg (by rw [HN.out];exact h6)])
   have g6:¬(6:Int)<(n:Int):=by omega
   have hn6:n≤6:=by omega
   clear h6
   go_wp2_with fail
   have hT2:=HT1.out.alloc (.cells #[.int .u32 row.1,.string ⟨row.2.1.toArray⟩,.int .i64 row.2.2] 182)
   have hG2:=grow_alloc HG1.out (.cells #[.int .u32 row.1,.string ⟨row.2.1.toArray⟩,.int .i64 row.2.2] 182)
   have hR2:=HR1.out.below ((Below.refl _ _).alloc (Nat.le_refl _) (.cells #[.int .u32 row.1,.string ⟨row.2.1.toArray⟩,.int .i64 row.2.2] 182))
   clear q0 q1 q2
   generalize w1.alloc _=w2 at hT2 hG2 hR2 ⊢
   have HT2:=qd hT2
   have HG2:=qd hG2
   have HR2:=qd hR2
   clear hT2 hG2 hR2 HT1 HG1 HR1 g6
   go_loopw [30] (fun iv wr=>∃k:Nat,iv=.int .i64 k∧k≤n∧Hid (firstE (fun _ c=>condE c) 0 cs=firstE (fun _ c=>condE c) k (cs.drop k))∧Hid (Below w2.heap.size w2 wr)) (fun iv _=>n-(intOf iv).toNat)
   case atStart=>exact ⟨0,rfl,Nat.zero_le _,rfl,Below.refl _ _⟩
   case round=>
    obtain ⟨k,rfl,hk,HF,HB⟩:=hrel
    by_cases hlt:k<n
    ·obtain ⟨c,hc⟩:∃c,cs[k]?=some c:=⟨_,List.getElem?_eq_getElem (by have:=HN.out;omega)⟩
     obtain ⟨b,o,rfl,hbl,hcell⟩:=(HR2.out.below HB.out).one (fun _=>rfl) (by omega) (by omega)
     obtain ⟨c0,c1,c2,c3⟩:=cond_cells hcell hc
     have hcok:=HC.out c (List.mem_of_getElem? hc)
     have hck:=qd (fun W=>condCheck_any c.arg c.op c.mask c.val W hcok.2.2.2.1 hcok.2.2.2.2)
     have HX:=qd hc
     clear hcell hc hcok
     go_wp2_with fail
     refine (hck.out _).mono ?_
     clear hck c0 c1 c2 c3
     rintro e w3 ⟨rfl,hb3⟩
     have HB3:=qd ((HB.out.alloc HB.out.size (.cells #[.int .i64 c.arg,.int .u8 c.op,.int .u64 c.mask,.int .u64 c.val] 89)).trans (hb3.mono (by have:=HB.out.size;simp;omega)))
     clear hb3
     have hce:(⟨c.arg,c.op,c.mask,c.val⟩:CondM)=c:=rfl
     rw [hce]
     clear hce
     by_cases hz:condE c=0
     ·have HK:=qd (show firstE (fun _ c=>condE c) 0 cs=firstE (fun _ c=>condE c) (k+1) (cs.drop (k+1)) from HF.out.trans (firstE_on (f:=fun _ c=>condE c) HX.out hz))
      rw [hz]
      clear hz
      go_wp2_with fail
      go_roundw
      case rel=>exact ⟨k+1,by go_num,by omega,HK,HB3⟩
      case measure=>simp [intOf];omega
     ·have HK:=qd (show ruleE ⟨num,act,cs⟩=condE c from HV.out.trans (HF.out.trans (firstE_bad (f:=fun _ c=>condE c) HX.out hz)))
      have gz:((condE c:Int) != 0)=true:=by rw [bne_iff_ne];omega
      clear hz
      go_wp2_with fail
      go_ret
      exact ru_of HK.out rfl (HT2.out.kept HB3.out) (grow_below HG2.out HB3.out)
    ·have HK:=qd (show ruleE ⟨num,act,cs⟩=0 from HV.out.trans (HF.out.trans (firstE_end _ _ (by have:=HN.out;omega) _)))
     go_wp2_with fail
     go_ret
     exact ru_of HK.out rfl (HT2.out.kept HB.out) (grow_below HG2.out HB.out)
end Go.Proofs.YtcnebdjhhfnmoaaGreatDoor
namespace Go.Proofs.YtcnebdjhhfnmoaaGreatDoor
open Go.RowKit
theorem Rd.take {α:Type}{f:α→List Value}{w:World}{z n:Nat}{A:Option Addr}{l:List α}(h:Rd w z n A (l.flatMap f))(hf:∀x,(f x).length=z)(hz:0<z)(hl:l.length=n)(k:Nat)(hk:k≤n):Rd w z k A ((l.take k).flatMap f):=by
 refine ⟨by rw [flatz_len f z hf,List.length_take,hl,Nat.min_eq_left hk],?_⟩
 rcases Nat.eq_zero_or_pos k with h0|h0
 ·exact .inl h0
 ·right
  obtain ⟨b,o,e,hb,hc⟩:=h.pos (by omega)
  refine ⟨b,o,e,hb,fun j u hu=>hc j u ?_⟩
  have hj:j=j / z*z+j%z:=by rw [Nat.mul_comm];exact (Nat.div_add_mod j z).symm
  have hm:j%z<z:=Nat.mod_lt _ hz
  rw [hj,flatz f z hf hz _ _ _ hm] at hu ⊢
  obtain ⟨x,hx,hv⟩:=Option.bind_eq_some_iff.1 hu
  rw [List.getElem?_take] at hx
  split at hx
  ·rw [hx];exact hv
  ·cases hx
theorem two_cells {α:Type}{f:α→List Value}{w:World}{b o k:Nat}{l:List α}{x:α}{v0 v1:Value}(hc:∀k x,l[k]?=some x→∀j v,(f x)[j]?=some v→w.cell? ⟨b,o+(k*2+j),none⟩=some v)(h:l[k]?=some x)(hf:f x=[v0,v1]) :
  w.cell? ⟨b,o+k*2,none⟩=some v0∧w.cell? ⟨b,o+k*2+1,none⟩=some v1:=
 ⟨by have:=hc k x h 0 v0 (by rw [hf];rfl);simpa using this,by have:=hc k x h 1 v1 (by rw [hf];rfl);simpa [Nat.add_assoc] using this⟩
theorem one_alloc (w:World)(o:Obj):Below w.heap.size w (w.alloc o):=(Below.refl _ _).alloc (Nat.le_refl _) _
theorem closPath (y c:Bs)(r bb:Nat)(w:World)(hc:w.cell? ⟨bb,0,none⟩=some (.string ⟨c.toArray⟩))(hb:bb<w.heap.size):Calls Tryz.prog 75 #[.agg #[.string ⟨y.toArray⟩,.int .u16 r],.pointer (some ⟨bb,0,none⟩)] w (BoolPost (decide (y=c)) w):=by
 have HB:=qd (show Below w.heap.size w (w.alloc (.cells #[.string ⟨y.toArray⟩,.int .u16 r] 96)) from (Below.refl _ _).alloc (Nat.le_refl _) _)
 by_cases he:y=c
 ·rw [decide_eq_true he]
  subst he
  go_enter Tryz.func75,Tryz.ntmps75
  go_wp2_with fail
  go_ret
  exact ⟨rfl,HB.out⟩
 ·rw [decide_eq_false he]
  have g:(y==c)=false:=by simpa using he
  clear he
  go_enter Tryz.func75,Tryz.ntmps75
  go_wp2_with fail
  go_ret
  exact ⟨rfl,HB.out⟩
def IxPath (l:List (Bs×Nat))(c:Bs)(w:World)(e:Ending)(w':World):Prop:=(∃v:Int,e=.returned (.int .i64 v)∧decide (0≤v)=l.any fun y=>decide (y.1=c))∧Below w.heap.size w w'
theorem indexPath (l:List (Bs×Nat))(A:Option Addr)(n cap bb:Nat)(c:Bs)(w:World)(hn:l.length=n)(hr:Rd w 2 n A (l.flatMap pathC))(hc:w.cell? ⟨bb,0,none⟩=some (.string ⟨c.toArray⟩))(hb:bb<w.heap.size)(hm:n≤70000) :
  Calls Tryz.prog 121 #[.slice A n cap,.func (.func 75) #[] #[.pointer (some ⟨bb,0,none⟩)]] w (IxPath l c w):=by
 have HR:=qd hr
 have HN:=qd hn
 have HC:=qd hc
 clear hr hc
 go_enter Tryz.func121,Tryz.ntmps121
 go_wp2_with fail
 go_loopw [8] (fun iv wr=>∃k:Nat,iv=.int .i64 k∧k≤n∧Hid (((l.take k).any fun y=>decide (y.1=c))=false)∧Hid (Below w.heap.size w wr)) (fun iv _=>n-(intOf iv).toNat)
 case atStart=>exact ⟨0,rfl,Nat.zero_le _,rfl,Below.refl _ _⟩
 case round=>
  obtain ⟨k,rfl,hk,HT,HB⟩:=hrel
  have hbr:bb<wr.heap.size:=Nat.lt_of_lt_of_le hb HB.out.size
  by_cases hlt:k<n
  ·obtain ⟨x,hx⟩:∃x,l[k]?=some x:=⟨_,List.getElem?_eq_getElem (by omega)⟩
   obtain ⟨b,o,rfl,hbl,hcell⟩:=(HR.out.below HB.out).one (fun _=>rfl) (by omega) (by omega)
   obtain ⟨c0,c1⟩:=two_cells (f:=pathC) hcell hx rfl
   have HX:=qd hx
   have hp:=closPath x.1 c x.2 bb wr (cell_below HC.out HB.out) hbr
   clear hcell hx
   go_wp2_with fail
   refine hp.mono ?_
   clear hp c0 c1
   rintro e w2 ⟨rfl,hb2⟩
   have HB2:=qd (HB.out.trans (hb2.mono HB.out.size))
   clear hb2
   cases hq:decide (x.1=c) with
   | true=>
    have HV:=qd (show decide ((0:Int)≤(k:Int))=l.any fun y=>decide (y.1=c) by
     rw [decide_eq_true (by omega:(0:Int)≤(k:Int))]
     exact (List.any_eq_true.2 ⟨x,List.mem_of_getElem? HX.out,hq⟩).symm)
    clear hq
    go_wp2_with fail
    go_ret
    exact ⟨⟨_,rfl,HV.out⟩,HB2.out⟩
   | false=>
    have HK:=qd (show ((l.take (k+1)).any fun y=>decide (y.1=c))=false by
     rw [List.take_add_one,HX.out,List.any_append,HT.out];simpa using hq)
    clear hq
    go_wp2_with fail
    go_roundw
    case rel=>exact ⟨k+1,by go_num,by omega,HK,HB2⟩
    case measure=>simp [intOf];omega
  ·have HV:=qd (show decide ((0:Int)≤-1)=l.any fun y=>decide (y.1=c) by
    have:=HT.out
    rw [List.take_of_length_le (by have:=HN.out;omega)] at this
    rw [this];rfl)
   go_wp2_with fail
   go_ret
   exact ⟨⟨_,rfl,HV.out⟩,HB.out⟩
theorem containsPath (l:List (Bs×Nat))(A:Option Addr)(n cap bb:Nat)(c:Bs)(w:World)(hn:l.length=n)(hr:Rd w 2 n A (l.flatMap pathC))(hc:w.cell? ⟨bb,0,none⟩=some (.string ⟨c.toArray⟩))(hb:bb<w.heap.size)(hm:n≤70000) :
  Calls Tryz.prog 74 #[.slice A n cap,.func (.func 75) #[] #[.pointer (some ⟨bb,0,none⟩)]] w (BoolPost (l.any fun y=>decide (y.1=c)) w):=by
 have hp:=indexPath l A n cap bb c w hn hr hc hb hm
 go_enter Tryz.func74,Tryz.ntmps74
 go_wp2_with fail
 refine hp.mono ?_
 clear hp
 rintro e w2 ⟨⟨v,rfl,hv⟩,hb2⟩
 go_wp2_with fail
 go_ret
 refine ⟨?_,hb2⟩
 rw [←hv]
 rfl
theorem checkPaths (l:List (Bs×Nat))(v0 v1 v2 v5:Value)(h:Nat)(A:Option Addr)(n cap:Nat)(w:World)(hn:l.length=n)(hr:Rd w 2 n A (l.flatMap pathC))(hh:h<65536)(hx:∀x∈l,x.1.length≤maxLen∧x.2<65536)(hm:n≤32)(hcap:n≤cap)(hE:Env w) :
  Calls Tryz.prog 39 #[.agg #[v0,v1,v2,.int .u16 h,.slice A n cap,v5]] w (RetE (firstE (pathE l h) 0 l) w):=by
 have hbk:=Bk.new w 30 #[v0,v1,v2,.int .u16 h,.slice A n cap,v5] (l:=[v0,v1,v2,.int .u16 h,.slice A n cap,v5]) rfl
 have hb0:Below w.heap.size w (w.alloc (.cells #[v0,v1,v2,.int .u16 h,.slice A n cap,v5] 30)):=(Below.refl _ _).alloc (Nat.le_refl _) _
 have HR:=qd (hr.below hb0)
 have HX:=qd hx
 have HN:=qd hn
 have HE:=qd (hE.below hb0)
 clear hr hx hn hE
 go_enter Tryz.func39,Tryz.ntmps39
 go_wp2_with fail
 have hlt0:=hbk.lt
 generalize w.alloc _=w1 at hbk hb0 hlt0 HR HE ⊢
 have HK:=qd hbk
 have HB0:=qd hb0
 clear hbk hb0
 go_loopw [8] (fun iv wr=>∃k:Nat,iv=.int .i64 k∧k≤n∧Hid (firstE (pathE l h) 0 l=firstE (pathE l h) k (l.drop k))∧Hid (Below w1.heap.size w1 wr)) (fun iv _=>n-(intOf iv).toNat)
 case atStart=>exact ⟨0,rfl,Nat.zero_le _,rfl,Below.refl _ _⟩
 case round=>
  obtain ⟨k,rfl,hk,HF,HB⟩:=hrel
  by_cases hlt:k<n
  ·obtain ⟨x,hx⟩:∃x,l[k]?=some x:=⟨_,List.getElem?_eq_getElem (by have:=HN.out;omega)⟩
   have hxok:=HX.out x (List.mem_of_getElem? hx)
   obtain ⟨x1,x2⟩:=x
   simp only at hxok
   have HRT:=qd (HR.out.take (fun _=>rfl) (by omega) HN.out k hk)
   obtain ⟨b,o,rfl,hbl,hcell⟩:=(HR.out.below HB.out).one (fun _=>rfl) (by omega) (by omega)
   obtain ⟨c0,c1⟩:=two_cells (f:=pathC) hcell hx rfl
   have HXX:=qd hx
   have hbl1:w.heap.size<wr.heap.size:=Nat.lt_of_lt_of_le hlt0 HB.out.size
   clear hcell hx
   have q4:=(HK.out.kept HB.out).cell 4 rfl
   have hpa:=fun W E=>path_any x1 W hxok.1 E
   go_wp2_with fail
   refine (hpa _ ((HE.out.below HB.out).below (one_alloc wr _))).mono ?_
   clear hpa c0 c1 q4
   rintro e w2 ⟨rfl,hb2⟩
   have hbn:=(Bk.new wr 96 #[.string ⟨x1.toArray⟩,.int .u16 x2] (l:=[.string ⟨x1.toArray⟩,.int .u16 x2]) rfl).kept hb2
   have n0:=hbn.cell 0 rfl
   have n1:=hbn.cell 1 rfl
   have hnl:=hbn.lt
   have HB2:=qd ((HB.out.alloc HB.out.size (.cells #[.string ⟨x1.toArray⟩,.int .u16 x2] 96)).trans (hb2.mono (by have:=HB.out.size;simp;omega)))
   clear hb2 hbn
   cases hp:pathB x1 with
   | false=>
    have HV:=qd (show firstE (pathE l h) 0 l=203 from HF.out.trans ((firstE_bad (f:=pathE l h) HXX.out (by simp [pathE,hp])).trans (by simp [pathE,hp])))
    clear hp
    go_wp2_with fail
    go_ret
    exact ret_of HV.out rfl (HB0.out.trans (HB2.out.mono HB0.out.size))
   | true=>
    have hlx:=Nat.lt_of_lt_of_le hlt0 HB2.out.size
    have q0:=(HK.out.kept HB2.out).cell 0 rfl
    have q1:=(HK.out.kept HB2.out).cell 1 rfl
    have q2:=(HK.out.kept HB2.out).cell 2 rfl
    have q3:=(HK.out.kept HB2.out).cell 3 rfl
    have q4:=(HK.out.kept HB2.out).cell 4 rfl
    have q5:=(HK.out.kept HB2.out).cell 5 rfl
    have hgr:=fun W=>mayGrant_any v0 v1 v2 (.slice (some ⟨b,o,none⟩) n cap) v5 h x2 2047 W hh hxok.2 (by omega)
    go_wp2_with fail
    refine (hgr _).mono ?_
    clear hgr q0 q1 q2 q3 q4 q5
    rintro e w3 ⟨rfl,hb3⟩
    have HB3:=qd (HB2.out.trans (hb3.mono HB2.out.size))
    have n2:=cell_below n0 hb3
    have hnl3:wr.heap.size<w3.heap.size:=Nat.lt_of_lt_of_le hnl hb3.size
    clear n0 n1 hb3 hnl
    cases hg:grantB h x2 2047 with
    | false=>
     have HV:=qd (show firstE (pathE l h) 0 l=204 from HF.out.trans ((firstE_bad (f:=pathE l h) HXX.out (by simp [pathE,hp,hg])).trans (by simp [pathE,hp,hg])))
     clear hg hp
     go_wp2_with fail
     go_ret
     exact ret_of HV.out rfl (HB0.out.trans (HB3.out.mono HB0.out.size))
    | true=>
     have q4:=(HK.out.kept HB3.out).cell 4 rfl
     have hl3:=Nat.lt_of_lt_of_le hlt0 HB3.out.size
     have hct:=qd (containsPath (l.take k) (some ⟨b,o,none⟩) k cap wr.heap.size x1 w3 (by rw [List.length_take,HN.out];omega) (HRT.out.below HB3.out) n2 hnl3 (by omega))
     go_wp2_with fail
     refine hct.out.mono ?_
     clear hct q4 n2
     rintro e w4 ⟨rfl,hb4⟩
     have HB4:=qd (HB3.out.trans (hb4.mono HB3.out.size))
     clear hb4
     cases ha:((l.take k).any fun y=>decide (y.1=x1)) with
     | true=>
      have he:pathE l h k (x1,x2)=206:=by unfold pathE;rw [if_neg (by rw [hp];simp)];rw [if_neg (by rw [hg];simp),if_pos ha]
      have HV:=qd (show firstE (pathE l h) 0 l=206 from HF.out.trans ((firstE_bad (f:=pathE l h) HXX.out (by rw [he];decide)).trans he))
      clear ha hg he hp
      go_wp2_with fail
      go_ret
      exact ret_of HV.out rfl (HB0.out.trans (HB4.out.mono HB0.out.size))
     | false=>
      have he:pathE l h k (x1,x2)=0:=by unfold pathE;rw [if_neg (by rw [hp];simp)];rw [if_neg (by rw [hg];simp),if_neg (by rw [ha];simp)]
      have HN2:=qd (show firstE (pathE l h) 0 l=firstE (pathE l h) (k+1) (l.drop (k+1)) from HF.out.trans (firstE_on (f:=pathE l h) HXX.out he))
      clear ha hg he hp
      go_wp2_with fail
      go_roundw
      case rel=>exact ⟨k+1,by go_num,by omega,HN2,HB4⟩
      case measure=>simp [intOf];omega
  ·have HV:=qd (show firstE (pathE l h) 0 l=0 from HF.out.trans (firstE_end _ _ (by have:=HN.out;omega) _))
   go_wp2_with fail
   go_ret
   exact ret_of HV.out rfl (HB0.out.trans (HB.out.mono HB0.out.size))
theorem closPort (y c:Nat)(r bb:Nat)(w:World)(hc:w.cell? ⟨bb,0,none⟩=some (.int .u16 c))(hb:bb<w.heap.size):Calls Tryz.prog 77 #[.agg #[.int .u16 y,.int .u16 r],.pointer (some ⟨bb,0,none⟩)] w (BoolPost (decide (y=c)) w):=by
 have HB:=qd (show Below w.heap.size w (w.alloc (.cells #[.int .u16 y,.int .u16 r] 132)) from (Below.refl _ _).alloc (Nat.le_refl _) _)
 by_cases he:y=c
 ·rw [decide_eq_true he]
  subst he
  go_enter Tryz.func77,Tryz.ntmps77
  go_wp2_with fail
  go_ret
  exact ⟨rfl,HB.out⟩
 ·rw [decide_eq_false he]
  have g:((y:Int)==(c:Int))=false:=by rw [beq_eq_false_iff_ne];omega
  clear he
  go_enter Tryz.func77,Tryz.ntmps77
  go_wp2_with fail
  go_ret
  exact ⟨rfl,HB.out⟩
def IxPort (l:List (Nat×Nat))(c:Nat)(w:World)(e:Ending)(w':World):Prop:=(∃v:Int,e=.returned (.int .i64 v)∧decide (0≤v)=l.any fun y=>decide (y.1=c))∧Below w.heap.size w w'
theorem indexPort (l:List (Nat×Nat))(A:Option Addr)(n cap bb:Nat)(c:Nat)(w:World)(hn:l.length=n)(hr:Rd w 2 n A (l.flatMap portC))(hc:w.cell? ⟨bb,0,none⟩=some (.int .u16 c))(hb:bb<w.heap.size)(hm:n≤70000) :
  Calls Tryz.prog 122 #[.slice A n cap,.func (.func 77) #[] #[.pointer (some ⟨bb,0,none⟩)]] w (IxPort l c w):=by
 have HR:=qd hr
 have HN:=qd hn
 have HC:=qd hc
 clear hr hc
 go_enter Tryz.func122,Tryz.ntmps122
 go_wp2_with fail
 go_loopw [8] (fun iv wr=>∃k:Nat,iv=.int .i64 k∧k≤n∧Hid (((l.take k).any fun y=>decide (y.1=c))=false)∧Hid (Below w.heap.size w wr)) (fun iv _=>n-(intOf iv).toNat)
 case atStart=>exact ⟨0,rfl,Nat.zero_le _,rfl,Below.refl _ _⟩
 case round=>
  obtain ⟨k,rfl,hk,HT,HB⟩:=hrel
  have hbr:bb<wr.heap.size:=Nat.lt_of_lt_of_le hb HB.out.size
  by_cases hlt:k<n
  ·obtain ⟨x,hx⟩:∃x,l[k]?=some x:=⟨_,List.getElem?_eq_getElem (by omega)⟩
   obtain ⟨b,o,rfl,hbl,hcell⟩:=(HR.out.below HB.out).one (fun _=>rfl) (by omega) (by omega)
   obtain ⟨c0,c1⟩:=two_cells (f:=portC) hcell hx rfl
   have HX:=qd hx
   have hp:=closPort x.1 c x.2 bb wr (cell_below HC.out HB.out) hbr
   clear hcell hx
   go_wp2_with fail
   refine hp.mono ?_
   clear hp c0 c1
   rintro e w2 ⟨rfl,hb2⟩
   have HB2:=qd (HB.out.trans (hb2.mono HB.out.size))
   clear hb2
   cases hq:decide (x.1=c) with
   | true=>
    have HV:=qd (show decide ((0:Int)≤(k:Int))=l.any fun y=>decide (y.1=c) by
     rw [decide_eq_true (by omega:(0:Int)≤(k:Int))]
     exact (List.any_eq_true.2 ⟨x,List.mem_of_getElem? HX.out,hq⟩).symm)
    clear hq
    go_wp2_with fail
    go_ret
    exact ⟨⟨_,rfl,HV.out⟩,HB2.out⟩
   | false=>
    have HK:=qd (show ((l.take (k+1)).any fun y=>decide (y.1=c))=false by
     rw [List.take_add_one,HX.out,List.any_append,HT.out];simpa using hq)
    clear hq
    go_wp2_with fail
    go_roundw
    case rel=>exact ⟨k+1,by go_num,by omega,HK,HB2⟩
    case measure=>simp [intOf];omega
  ·have HV:=qd (show decide ((0:Int)≤-1)=l.any fun y=>decide (y.1=c) by
    have:=HT.out
    rw [List.take_of_length_le (by have:=HN.out;omega)] at this
    rw [this];rfl)
   go_wp2_with fail
   go_ret
   exact ⟨⟨_,rfl,HV.out⟩,HB.out⟩
theorem containsPort (l:List (Nat×Nat))(A:Option Addr)(n cap bb:Nat)(c:Nat)(w:World)(hn:l.length=n)(hr:Rd w 2 n A (l.flatMap portC))(hc:w.cell? ⟨bb,0,none⟩=some (.int .u16 c))(hb:bb<w.heap.size)(hm:n≤70000) :
  Calls Tryz.prog 76 #[.slice A n cap,.func (.func 77) #[] #[.pointer (some ⟨bb,0,none⟩)]] w (BoolPost (l.any fun y=>decide (y.1=c)) w):=by
 have hp:=indexPort l A n cap bb c w hn hr hc hb hm
 go_enter Tryz.func76,Tryz.ntmps76
 go_wp2_with fail
 refine hp.mono ?_
 clear hp
 rintro e w2 ⟨⟨v,rfl,hv⟩,hb2⟩
 go_wp2_with fail
 go_ret
 refine ⟨?_,hb2⟩
 rw [←hv]
 rfl
theorem checkPorts (l:List (Nat×Nat))(v0 v1 v2 v4:Value)(h:Nat)(A:Option Addr)(n cap:Nat)(w:World)(hn:l.length=n)(hr:Rd w 2 n A (l.flatMap portC))(hh:h<65536)(hx:∀x∈l,x.1<65536∧x.2<65536)(hm:n≤32)(hcap:n≤cap) :
  Calls Tryz.prog 40 #[.agg #[v0,v1,v2,.int .u16 h,v4,.slice A n cap]] w (RetE (firstE (portE l h) 0 l) w):=by
 have hbk:=Bk.new w 30 #[v0,v1,v2,.int .u16 h,v4,.slice A n cap] (l:=[v0,v1,v2,.int .u16 h,v4,.slice A n cap]) rfl
 have hb0:Below w.heap.size w (w.alloc (.cells #[v0,v1,v2,.int .u16 h,v4,.slice A n cap] 30)):=(Below.refl _ _).alloc (Nat.le_refl _) _
 have HR:=qd (hr.below hb0)
 have HX:=qd hx
 have HN:=qd hn
 clear hr hx hn
 go_enter Tryz.func40,Tryz.ntmps40
 go_wp2_with fail
 have hlt0:=hbk.lt
 generalize w.alloc _=w1 at hbk hb0 hlt0 HR ⊢
 have HK:=qd hbk
 have HB0:=qd hb0
 clear hbk hb0
 go_loopw [8] (fun iv wr=>∃k:Nat,iv=.int .i64 k∧k≤n∧Hid (firstE (portE l h) 0 l=firstE (portE l h) k (l.drop k))∧Hid (Below w1.heap.size w1 wr)) (fun iv _=>n-(intOf iv).toNat)
 case atStart=>exact ⟨0,rfl,Nat.zero_le _,rfl,Below.refl _ _⟩
 case round=>
  obtain ⟨k,rfl,hk,HF,HB⟩:=hrel
  by_cases hlt:k<n
  ·obtain ⟨x,hx⟩:∃x,l[k]?=some x:=⟨_,List.getElem?_eq_getElem (by have:=HN.out;omega)⟩
   have hxok:=HX.out x (List.mem_of_getElem? hx)
   obtain ⟨x1,x2⟩:=x
   simp only at hxok
   have HRT:=qd (HR.out.take (fun _=>rfl) (by omega) HN.out k hk)
   obtain ⟨b,o,rfl,hbl,hcell⟩:=(HR.out.below HB.out).one (fun _=>rfl) (by omega) (by omega)
   obtain ⟨c0,c1⟩:=two_cells (f:=portC) hcell hx rfl
   have HXX:=qd hx
   have hbl1:w.heap.size<wr.heap.size:=Nat.lt_of_lt_of_le hlt0 HB.out.size
   clear hcell hx
   have q5:=(HK.out.kept HB.out).cell 5 rfl
   clear q5
   have q0:=(HK.out.kept HB.out).cell 0 rfl
   have q1:=(HK.out.kept HB.out).cell 1 rfl
   have q2:=(HK.out.kept HB.out).cell 2 rfl
   have q3:=(HK.out.kept HB.out).cell 3 rfl
   have q4:=(HK.out.kept HB.out).cell 4 rfl
   have q5:=(HK.out.kept HB.out).cell 5 rfl
   have hgr:=fun W=>mayGrant_any v0 v1 v2 v4 (.slice (some ⟨b,o,none⟩) n cap) h x2 49152 W hh hxok.2 (by omega)
   go_wp2_with fail
   refine (hgr _).mono ?_
   clear hgr q0 q1 q2 q3 q4 q5
   rintro e w3 ⟨rfl,hb3⟩
   have HB3:=qd ((HB.out.alloc HB.out.size (.cells #[.int .u16 x1,.int .u16 x2] 132)).trans (hb3.mono (by have:=HB.out.size;simp;omega)))
   have hbn:=(Bk.new wr 132 #[.int .u16 x1,.int .u16 x2] (l:=[.int .u16 x1,.int .u16 x2]) rfl).kept hb3
   have n2:=hbn.cell 0 rfl
   have hnl3:=hbn.lt
   clear c0 c1 hbn hb3
   cases hg:grantB h x2 49152 with
   | false=>
    have HV:=qd (show firstE (portE l h) 0 l=204 from HF.out.trans ((firstE_bad (f:=portE l h) HXX.out (by simp [portE,hg])).trans (by simp [portE,hg])))
    clear hg
    go_wp2_with fail
    go_ret
    exact ret_of HV.out rfl (HB0.out.trans (HB3.out.mono HB0.out.size))
   | true=>
    have q5:=(HK.out.kept HB3.out).cell 5 rfl
    have hl3:=Nat.lt_of_lt_of_le hlt0 HB3.out.size
    have hct:=qd (containsPort (l.take k) (some ⟨b,o,none⟩) k cap wr.heap.size x1 w3 (by rw [List.length_take,HN.out];omega) (HRT.out.below HB3.out) n2 hnl3 (by omega))
    go_wp2_with fail
    refine hct.out.mono ?_
    clear hct q5 n2
    rintro e w4 ⟨rfl,hb4⟩
    have HB4:=qd (HB3.out.trans (hb4.mono HB3.out.size))
    clear hb4
    cases ha:((l.take k).any fun y=>decide (y.1=x1)) with
    | true=>
     have he:portE l h k (x1,x2)=206:=by unfold portE;rw [if_neg (by rw [hg];simp),if_pos ha]
     have HV:=qd (show firstE (portE l h) 0 l=206 from HF.out.trans ((firstE_bad (f:=portE l h) HXX.out (by rw [he];decide)).trans he))
     clear ha hg he
     go_wp2_with fail
     go_ret
     exact ret_of HV.out rfl (HB0.out.trans (HB4.out.mono HB0.out.size))
    | false=>
     have he:portE l h k (x1,x2)=0:=by unfold portE;rw [if_neg (by rw [hg];simp),if_neg (by rw [ha];simp)]
     have HN2:=qd (show firstE (portE l h) 0 l=firstE (portE l h) (k+1) (l.drop (k+1)) from HF.out.trans (firstE_on (f:=portE l h) HXX.out he))
     clear ha hg he
     go_wp2_with fail
     go_roundw
     case rel=>exact ⟨k+1,by go_num,by omega,HN2,HB4⟩
     case measure=>simp [intOf];omega
  ·have HV:=qd (show firstE (portE l h) 0 l=0 from HF.out.trans (firstE_end _ _ (by have:=HN.out;omega) _))
   go_wp2_with fail
   go_ret
   exact ret_of HV.out rfl (HB0.out.trans (HB.out.mono HB0.out.size))
end Go.Proofs.YtcnebdjhhfnmoaaGreatDoor
namespace Go.Proofs.YtcnebdjhhfnmoaaGreatDoor
open Go.RowKit
open Classical in
theorem wordB_of {s:Bs}{b:Bool}(hb:b=true↔wordP ⟨s.toArray⟩):wordB s=b:=by
 unfold wordB
 cases b with
 | true=>exact decide_eq_true (hb.1 rfl)
 | false=>exact decide_eq_false (fun h=>by have:=hb.2 h;cases this)
theorem TState.c0 {w:World}{tb:Nat}{a:Int}(h:TState w tb a):∃u,w.cell? ⟨tb,0,none⟩=some (.int .u32 u)∧w.cell? ⟨tb,7,none⟩=none:=by
 rcases h with ⟨_,h⟩|⟨_,_,_,_,h,_⟩
 ·exact ⟨_,h.c0,by simp only [Tab] at h;simp [World.cell?,h]⟩
 ·exact ⟨_,h.c0,by simp only [Tab] at h;simp [World.cell?,h]⟩
theorem cell_grown {w w':World}{b o tb:Nat}{v:Value}(h:w.cell? ⟨b,o,none⟩=some v)(g:w.grownBy w' (some tb))(hb:b≠tb):w'.cell? ⟨b,o,none⟩=some v:=by
 have hl:b<w.heap.size:=by
  rcases Nat.lt_or_ge b w.heap.size with h'|h'
  ·exact h'
  ·simp [World.cell?,Array.getElem?_eq_none h'] at h
 rw [←h]
 unfold World.cell?
 rw [g.block b hl (fun e=>hb (Option.some.inj e))]
theorem Env.grown {w w':World}{tb n:Nat}(h:Env w)(hT:TS w tb n)(g:w.grownBy w' (some tb)):Env w':=by
 obtain ⟨a,_,_,hT⟩:=hT
 obtain ⟨u,h0,_⟩:=hT.c0
 obtain ⟨m,hm⟩:=h.ml
 refine ⟨⟨m,cell_grown hm g ?_⟩⟩
 intro e
 subst e
 rw [h0] at hm
 cases hm
theorem rule_cells {w:World}{b o k:Nat}{l:List RuleV}{x:RuleV}(hc:∀k x,l[k]?=some x→∀j v,(RuleV.cells x)[j]?=some v→w.cell? ⟨b,o+(k*3+j),none⟩=some v)(h:l[k]?=some x) :
  w.cell? ⟨b,o+k*3,none⟩=some (.int .u32 x.m.num)∧w.cell? ⟨b,o+k*3+1,none⟩=some (.int .u32 x.m.act)∧w.cell? ⟨b,o+k*3+2,none⟩=some (.slice x.A x.m.conds.length x.cap):=
 ⟨by have:=hc k x h 0 _ rfl;simpa using this,by have:=hc k x h 1 _ rfl;simpa [Nat.add_assoc] using this,by have:=hc k x h 2 _ rfl;simpa [Nat.add_assoc] using this⟩
theorem firstE_map {α β:Type}(g:α→β)(f:Nat→β→Nat):∀(l:List α) (k:Nat),firstE f k (l.map g)=firstE (fun i x=>f i (g x)) k l
 | [],_=>rfl
 | x::t,k=>by simp only [List.map_cons,firstE,firstE_map g f t]
theorem rule_any' (r:RuleM)(A:Option Addr)(cap tb m:Nat)(w:World)(hok:r.ok)(hR:Rd w 4 r.conds.length A (r.conds.flatMap CondM.cells))(hO:Off r.conds.length A tb)(hT:TS w tb m)(hm:m≤1000000) :
  Calls Tryz.prog 38 #[.agg #[.int .u32 r.num,.int .u32 r.act,.slice A r.conds.length cap],.pointer (some ⟨tb,0,none⟩)] w (RuPost (ruleE r) tb (m+1) w):=
 rule_any r.num r.act r.conds A _ cap tb m w hok rfl hR hO hT hm
theorem ru_below {n tb m k:Nat}{w w1:World}{e:Ending}(h:n=k)(he:e=.returned (.int .i64 k))(ht:TS w tb m)(hb:Below w.heap.size w w1)(j:Nat)(hj:m≤j):RuPost n tb j w e w1:=
 ru_of h he ((ht.kept hb).mono hj) (grow_below (grown_refl w _) hb)
theorem polCheck_any (nm:Bs)(dflt:Nat)(rules:List RuleV)(RA:Option Addr)(nR Rc hd:Nat)(paths:List (Bs×Nat))(PA:Option Addr)(nP Pc:Nat)(ports:List (Nat×Nat))(QA:Option Addr)(nQ Qc:Nat)(tb m:Nat)(w:World)
  (hnm:nm.length≤maxLen) (hdf:dflt<4294967296) (hnR:rules.length=nR) (hnP:paths.length=nP) (hnQ:ports.length=nQ) (hlR:nR≤maxLen) (hlP:nP≤maxLen) (hlQ:nQ≤maxLen)
  (hru:∀r∈rules,r.m.ok) (hhd:hd<65536) (hpa:∀x∈paths,x.1.length≤maxLen∧x.2<65536) (hpo:∀x∈ports,x.1<65536∧x.2<65536) (hcP:nP≤Pc) (hcQ:nQ≤Qc)
  (hR:Reads w ⟨nm,dflt,rules,RA,Rc,hd,paths,PA,Pc,ports,QA,Qc⟩) (hO:OffP ⟨nm,dflt,rules,RA,Rc,hd,paths,PA,Pc,ports,QA,Qc⟩ tb) (hT:TS w tb m) (hm:m≤900000) (hE:Env w) :
  Calls Tryz.prog 14 #[.agg #[.string ⟨nm.toArray⟩,.int .u32 dflt,.slice RA nR Rc,.int .u16 hd,.slice PA nP Pc,.slice QA nQ Qc],.pointer (some ⟨tb,0,none⟩)] w
   (RuPost (polE ⟨nm,dflt,rules.map RuleV.m,hd,paths,ports⟩) tb (m+64) w):=by
 have htl:=hT.lt
 have hbk:=Bk.new w 30 #[.string ⟨nm.toArray⟩,.int .u32 dflt,.slice RA nR Rc,.int .u16 hd,.slice PA nP Pc,.slice QA nQ Qc] (l:=[.string ⟨nm.toArray⟩,.int .u32 dflt,.slice RA nR Rc,.int .u16 hd,.slice PA nP Pc,.slice QA nQ Qc]) rfl
 have hb0:=one_alloc w (.cells #[.string ⟨nm.toArray⟩,.int .u32 dflt,.slice RA nR Rc,.int .u16 hd,.slice PA nP Pc,.slice QA nQ Qc] 30)
 have hwd:=qd (fun W=>word_any ⟨nm.toArray⟩ W (by rw [Lib.size_eq];exact hnm))
 have HT:=qd hT
 have HR:=qd hR
 have HO:=qd hO
 have HE:=qd hE
 have Hru:=qd hru
 have Hpa:=qd hpa
 have Hpo:=qd hpo
 have HnR:=qd hnR
 have HnP:=qd hnP
 have HnQ:=qd hnQ
 have hlR':nR≤9223372036854775807:=hlR
 have hlP':nP≤9223372036854775807:=hlP
 have hlQ':nQ≤9223372036854775807:=hlQ
 clear hR hO hE hru hpa hpo hT hlR hlP hlQ hnR hnP hnQ hnm
 go_enter Tryz.func14,Tryz.ntmps14
 go_wp2_with fail
 have hlt0:=hbk.lt
 refine (hwd.out _).mono ?_
 clear hwd
 rintro e w1 ⟨⟨b,rfl,hb⟩,hb1⟩
 have HB1:=qd (hb0.trans (hb1.mono (by simp)))
 have hk1:=hbk.kept hb1
 have hl1:=hk1.lt
 have q0:=hk1.cell 0 rfl
 have q1:=hk1.cell 1 rfl
 have q2:=hk1.cell 2 rfl
 have q3:=hk1.cell 3 rfl
 have q4:=hk1.cell 4 rfl
 have q5:=hk1.cell 5 rfl
 have HK1:=qd hk1
 have Hb:=qd (show wordB nm=b by
  exact wordB_of hb)
 clear hbk hb0 hb1 hb hk1 hlt0
 cases b with
 | false=>
  have HV:=qd (show polE ⟨nm,dflt,rules.map RuleV.m,hd,paths,ports⟩=202 by unfold polE;rw [if_pos Hb.out])
  go_wp2_with fail
  go_ret
  exact ru_below HV.out rfl HT.out HB1.out _ (by omega)
 | true=>
 have hmy:=fun W=>may_any dflt W hdf
 go_wp2_with fail
 refine (hmy _).mono ?_
 rintro e w2 ⟨rfl,rfl⟩
 clear hmy
 have Hb':=qd (show ¬wordB nm=false by rw [Hb.out];simp)
 cases hac:actB dflt with
 | false=>
  have HV:=qd (show polE ⟨nm,dflt,rules.map RuleV.m,hd,paths,ports⟩=210 by unfold polE;rw [if_neg Hb'.out,if_pos hac])
  clear hac
  go_wp2_with fail
  go_ret
  exact ru_below HV.out rfl HT.out HB1.out _ (by omega)
 | true=>
 have Hac:=qd (show ¬actB dflt=false by rw [hac];simp)
 clear hac
 by_cases hmany:64<rules.length∨32<paths.length∨32<ports.length
 ·have HV:=qd (show polE ⟨nm,dflt,rules.map RuleV.m,hd,paths,ports⟩=205 by unfold polE;rw [if_neg Hb'.out,if_neg Hac.out,if_pos (by simpa using hmany)])
  by_cases h1:64<nR
  ·have g1:(64:Int)<(nR:Int):=by omega
   have d1:decide ((64:Int)<(nR:Int))=true:=decide_eq_true g1
   clear hmany h1
   go_wp2_with fail
   go_ret
   exact ru_below HV.out rfl HT.out HB1.out _ (by omega)
  have g1:¬(64:Int)<(nR:Int):=by omega
  have d1:decide ((64:Int)<(nR:Int))=false:=decide_eq_false g1
  by_cases h2:32<nP
  ·have g2:(32:Int)<(nP:Int):=by omega
   have d2:decide ((32:Int)<(nP:Int))=true:=decide_eq_true g2
   clear hmany h1 h2
   go_wp2_with fail
   go_ret
   exact ru_below HV.out rfl HT.out HB1.out _ (by omega)
  have g2:¬(32:Int)<(nP:Int):=by omega
  have d2:decide ((32:Int)<(nP:Int))=false:=decide_eq_false g2
  have g3:(32:Int)<(nQ:Int):=by have:=HnR.out;have:=HnP.out;have:=HnQ.out;omega
  have d3:decide ((32:Int)<(nQ:Int))=true:=decide_eq_true g3
  clear hmany h1 h2
  go_wp2_with fail
  go_ret
  exact ru_below HV.out rfl HT.out HB1.out _ (by omega)
 have g1:¬(64:Int)<(nR:Int):=by have:=HnR.out;omega
 have d1:decide ((64:Int)<(nR:Int))=false:=decide_eq_false g1
 have g2:¬(32:Int)<(nP:Int):=by have:=HnP.out;omega
 have d2:decide ((32:Int)<(nP:Int))=false:=decide_eq_false g2
 have g3:¬(32:Int)<(nQ:Int):=by have:=HnQ.out;omega
 have d3:decide ((32:Int)<(nQ:Int))=false:=decide_eq_false g3
 have hR64:nR≤64:=by omega
 have hP32:nP≤32:=by omega
 have hQ32:nQ≤32:=by omega
 have Hmany:=qd (show ¬(64<(rules.map RuleV.m).length∨32<paths.length∨32<ports.length) by simpa using hmany)
 clear hmany
 have hva:=fun W=>Rt.valid_any hd W hhd
 go_wp2_with fail
 refine (hva _).mono ?_
 rintro e w2 ⟨rfl,rfl⟩
 clear hva
 cases hvd:decide (hd&&&14336=0) with
 | false=>
  have HV:=qd (show polE ⟨nm,dflt,rules.map RuleV.m,hd,paths,ports⟩=204 by unfold polE;rw [if_neg Hb'.out,if_neg Hac.out,if_neg Hmany.out,if_pos (by simpa using hvd)])
  clear hvd
  go_wp2_with fail
  go_ret
  exact ru_below HV.out rfl HT.out HB1.out _ (by omega)
 | true=>
 have HPE:=qd (show polE ⟨nm,dflt,rules.map RuleV.m,hd,paths,ports⟩=if firstE (fun _ r=>ruleE r.m) 0 rules≠0 then firstE (fun _ r=>ruleE r.m) 0 rules else if firstE (pathE paths hd) 0 paths≠0 then firstE (pathE paths hd) 0 paths else firstE (portE ports hd) 0 ports by
  unfold polE
  rw [if_neg Hb'.out,if_neg Hac.out,if_neg Hmany.out,if_neg (by simpa using hvd)]
  simp only [firstE_map])
 clear hvd
 go_wp2_with fail
 have HT1:=qd (HT.out.kept HB1.out)
 have HR1:=qd (HR.out.below HB1.out)
 have HE1:=qd (HE.out.below HB1.out)
 clear HT HR HE g1 d1 g2 d2 g3 d3 Hmany Hac Hb Hb' q0 q1 q2 q3 q4 q5
 go_loopw [47] (fun iv wr=>∃k:Nat,iv=.int .i64 k∧k≤nR∧Hid (firstE (fun _ r=>ruleE r.m) 0 rules=firstE (fun _ r=>ruleE r.m) k (rules.drop k))∧Hid (TS wr tb (m+k))∧Hid (w1.grownBy wr (some tb))) (fun iv _=>nR-(intOf iv).toNat)
 case atStart=>exact ⟨0,rfl,Nat.zero_le _,rfl,HT1.out,grown_refl _ _⟩
 case round=>
  obtain ⟨k,rfl,hk,HF,HTr,HG⟩:=hrel
  have hlw:w.heap.size<wr.heap.size:=Nat.lt_of_lt_of_le hl1 HG.out.size
  have hne:w.heap.size≠tb:=by omega
  by_cases hlt:k<nR
  ·obtain ⟨r,hr⟩:∃r,rules[k]?=some r:=⟨_,List.getElem?_eq_getElem (by have:=HnR.out;omega)⟩
   have HRr:=qd (HR1.out.grown HO.out HG.out)
   have hmem:=List.mem_of_getElem? hr
   have hrd:=HRr.out.rules
   simp only [HnR.out] at hrd
   obtain ⟨bb,o,rfl,hbl,hcell⟩:=hrd.one (fun _=>rfl) (by omega) (by omega)
   obtain ⟨c0,c1,c2⟩:=rule_cells hcell hr
   have hcd:=HRr.out.conds r hmem
   have hck:=qd (rule_any' r.m r.A r.cap tb (m+k) (wr.alloc (.cells #[.int .u32 r.m.num,.int .u32 r.m.act,.slice r.A r.m.conds.length r.cap] 86)) (Hru.out r hmem) (hcd.below (one_alloc _ _)) (HO.out.conds r hmem) (HTr.out.alloc _) (by omega))
   have HX:=qd hr
   obtain ⟨nc,hnc⟩:∃nc,nc=r.m.conds.length:=⟨_,rfl⟩
   rw [←hnc] at c2 hck
   clear hcell hr hmem hcd hrd hnc
   go_wp2_with fail
   refine hck.out.mono ?_
   clear hck c0 c1 c2
   rintro e w3 ⟨rfl,hT3,hg3⟩
   have HG3:=qd (show w1.grownBy w3 (some tb) from grown_trans (grow_alloc HG.out _) hg3 (fun j hj=>.inl hj))
   have HT3:=qd hT3
   clear hT3 hg3
   by_cases hz:ruleE r.m=0
   ·have HK:=qd (show firstE (fun _ r=>ruleE r.m) 0 rules=firstE (fun _ r=>ruleE r.m) (k+1) (rules.drop (k+1)) from HF.out.trans (firstE_on (f:=fun _ (r:RuleV)=>ruleE r.m) HX.out hz))
    rw [hz]
    clear hz
    go_wp2_with fail
    go_roundw
    case rel=>exact ⟨k+1,by go_num,by omega,HK,HT3,HG3⟩
    case measure=>simp [intOf];omega
   ·have HK:=qd (show firstE (fun _ r=>ruleE r.m) 0 rules=ruleE r.m from HF.out.trans (firstE_bad (f:=fun _ (r:RuleV)=>ruleE r.m) HX.out hz))
    have HV:=qd (show polE ⟨nm,dflt,rules.map RuleV.m,hd,paths,ports⟩=ruleE r.m by rw [HPE.out,if_pos (by rw [HK.out];exact hz),HK.out])
    have gz:((ruleE r.m:Int) != 0)=true:=by rw [bne_iff_ne];omega
    clear hz
    go_wp2_with fail
    go_ret
    exact ru_of HV.out rfl (HT3.out.mono (by omega)) (grown_trans (grow_below (grown_refl w _) HB1.out) HG3.out (fun j hj=>.inl hj))
  ·have HK:=qd (show ¬firstE (fun _ (r:RuleV)=>ruleE r.m) 0 rules≠0 by rw [HF.out.trans (firstE_end _ _ (by have:=HnR.out;omega) _)];simp)
   have hkr:=HK1.out.grown HG.out (by intro e;have:=Option.some.inj e;omega)
   have q0:=hkr.cell 0 rfl
   have q1:=hkr.cell 1 rfl
   have q2:=hkr.cell 2 rfl
   have q3:=hkr.cell 3 rfl
   have q4:=hkr.cell 4 rfl
   have q5:=hkr.cell 5 rfl
   have HRr:=qd (HR1.out.grown HO.out HG.out)
   have HKr:=qd hkr
   have hp1:=HRr.out.paths
   simp only [HnP.out] at hp1
   have hcp:=qd (checkPaths paths (.string ⟨nm.toArray⟩) (.int .u32 dflt) (.slice RA nR Rc) (.slice QA nQ Qc) hd PA nP Pc wr HnP.out hp1 hhd Hpa.out hP32 hcP (HE1.out.grown HT1.out HG.out))
   clear hkr hp1
   go_wp2_with fail
   refine hcp.out.mono ?_
   clear hcp q0 q1 q2 q3 q4 q5
   rintro e w4 ⟨rfl,hb4⟩
   have HB4:=qd hb4
   have hk4:=HKr.out.kept hb4
   have q0:=hk4.cell 0 rfl
   have q1:=hk4.cell 1 rfl
   have q2:=hk4.cell 2 rfl
   have q3:=hk4.cell 3 rfl
   have q4:=hk4.cell 4 rfl
   have q5:=hk4.cell 5 rfl
   have hl4:=hk4.lt
   have HG4:=qd (show w.grownBy w4 (some tb) from grow_below (grown_trans (grow_below (grown_refl w _) HB1.out) HG.out (fun j hj=>.inl hj)) hb4)
   have HT4:=qd (HTr.out.kept hb4)
   clear hb4 hk4
   by_cases hz:firstE (pathE paths hd) 0 paths=0
   ·have HV:=qd (show polE ⟨nm,dflt,rules.map RuleV.m,hd,paths,ports⟩=firstE (portE ports hd) 0 ports by rw [HPE.out,if_neg HK.out,if_neg (by rw [hz];simp)])
    rw [hz]
    have hq1:=(HRr.out.below HB4.out).ports
    simp only [HnQ.out] at hq1
    have hcq:=qd (checkPorts ports (.string ⟨nm.toArray⟩) (.int .u32 dflt) (.slice RA nR Rc) (.slice PA nP Pc) hd QA nQ Qc w4 HnQ.out hq1 hhd Hpo.out hQ32 hcQ)
    clear hz hq1
    go_wp2_with fail
    refine hcq.out.mono ?_
    rintro e w5 ⟨rfl,hb5⟩
    clear hcq q0 q1 q2 q3 q4 q5
    go_wp2_with fail
    go_ret
    exact ru_of HV.out rfl ((HT4.out.kept hb5).mono (by omega)) (grow_below HG4.out hb5)
   ·have HV:=qd (show polE ⟨nm,dflt,rules.map RuleV.m,hd,paths,ports⟩=firstE (pathE paths hd) 0 paths by rw [HPE.out,if_neg HK.out,if_pos hz])
    have gz:((firstE (pathE paths hd) 0 paths:Int) != 0)=true:=by rw [bne_iff_ne];omega
    clear hz
    go_wp2_with fail
    go_ret
    exact ru_of HV.out rfl (HT4.out.mono (by omega)) HG4.out
end Go.Proofs.YtcnebdjhhfnmoaaGreatDoor
