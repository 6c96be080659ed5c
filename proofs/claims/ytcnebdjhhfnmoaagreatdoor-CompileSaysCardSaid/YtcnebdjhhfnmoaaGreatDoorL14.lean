/- The law's parts and the tidied ones: made, loaded, run; both say the same. Lists alone. -/
import Derived.Test.YtcnebdjhhfnmoaaGreatDoorL13
import Derived.Shelf.Small.Wraps
import Derived.Shelf.Strings.Search1
import Derived.Shelf.Strings.Search2
import Derived.Shelf.Strings.Search3
import Derived.Shelf.Strings.Count
import Derived.Shelf.LaysM
import Derived.Shelf.Strings.Shaped
import Derived.Shelf.Strings.Prefix
import Derived.Shelf.Strings.Split
import Derived.Shelf.Bits.Mul64
import Derived.Shelf.Unicode.DecodeSlow
import Derived.Test.YtcnebdjhhfnmoaaGreatDoorProg
import Derived.Test.YtcnebdjhhfnmoaaGreatDoorL03
import Derived.Test.YtcnebdjhhfnmoaaGreatDoorL01
import Derived.LoopTactic
import Derived.Deep.CutRange
import Derived.Lib.ConvBytes
import Derived.Lib.OwnBridge
import Derived.Lib.AtoiErrMem
import Derived.ProofKit
import Derived.OpenShut
import Derived.SliceStrings
import Derived.ChangeOld
set_option maxHeartbeats 32000000
set_option maxRecDepth 100000
namespace Go.Proofs.YtcnebdjhhfnmoaaGreatDoor.Ju
def SmpI (i:Ins):Prop:=i.c=32∨i.c=84∨i.c=6∨i.c=5∨i.c=21∨i.c=37∨i.c=53∨i.c=69
theorem step_far (W:Nat→Nat)(i:Ins)(s:Mc)(h:i.c=5∨i.c=21∨i.c=37∨i.c=53∨i.c=69):stepN W i s=({ s with nx:=s.nx+1+farS i s.a },none):=by
 have ho:opd i s=i.k:=by unfold opd;rw [if_neg (by omega)]
 have hf:farN i s=farS i s.a:=by unfold farN farS;rw [ho]
 unfold stepN
 rw [if_neg (by omega),if_neg (by omega),if_neg (by omega),if_neg (by omega),if_neg (by omega),if_pos (by omega),hf]
theorem exec_runL (W:Nat→Nat)(l:List Ins)(hs:∀i∈l,SmpI i):∀(n:Nat) (s:Mc),l.length-s.nx≤n→(exec W l n s).2=runL W (l.drop s.nx) s.a
 | 0,s,h=>by
  rw [List.drop_of_length_le (by omega)];rfl
 | n+1,s,h=>by
  cases hi:l[s.nx]? with
  | none=>
   unfold exec
   rw [hi,List.drop_of_length_le (List.getElem?_eq_none_iff.1 hi)];rfl
  | some i=>
   obtain ⟨h1,h2⟩:=List.getElem?_eq_some_iff.1 hi
   have hd:l.drop s.nx=i::l.drop (s.nx+1):=by rw [List.drop_eq_getElem_cons h1,h2]
   have hsm:=hs i (List.mem_of_getElem? hi)
   have go:∀s',stepN W i s=(s',none)→s.nx<s'.nx→(exec W l (n+1) s).2=runL W (l.drop s'.nx) s'.a:=fun s' e hlt=>by
    have ih:=exec_runL W l hs n s' (by omega)
    conv=>lhs;unfold exec
    rw [hi]
    simp only [e]
    exact ih
   rw [hd,runL_cons]
   have hx:∀k,l.drop (s.nx+1+k)=(l.drop (s.nx+1)).drop k:=fun k=>by rw [List.drop_drop]
   obtain ⟨c,t,f,k⟩:=i
   rcases hsm with h|h|h|h|h|h|h|h<;>simp only at h<;>subst h
   ·rw [go { s with a:=W k,nx:=s.nx+1 } (by simp [stepN,ldN]) (by simp only;omega)];simp
   ·rw [go { s with a:=s.a&&&k,nx:=s.nx+1 } (by simp [stepN,reckN,opd]) (by simp only;omega)];simp
   ·conv=>lhs;unfold exec
    rw [hi]
    simp [stepN]
   all_goals
    rw [go _ (step_far W _ s (by simp)) (by simp only;omega)]
    simp only [hx]
    rfl
theorem run_code (W:Nat→Nat){l:List Ins}(hs:∀i∈l,SmpI i):(runN W l).2=runL W l 0:=by
 unfold runN
 rw [exec_runL W l hs _ _ (Nat.sub_le _ _)];rfl
/-! What tidying keeps. -/
theorem wt_led (o:List (Int×Int))(p:PtM):wtP (ledP o p)=wtP p:=by unfold wtP;rw [led_kd]
theorem fin_led {o:List (Int×Int)}{p:PtM}(h:Fin1 p):Fin1 (ledP o p):=by
 have hi:(ledP o p).i=p.i:=by
  unfold ledP
  split
  ·rfl
  ·split<;>rfl
 obtain ⟨h1,h2,h3⟩:=h
 refine ⟨?_,by rw [led_kd];exact h2,by rw [led_kd,hi];exact h3⟩
 unfold Smp at h1 ⊢
 rw [led_kd,hi];exact h1
theorem leadR_cons (p:PtM)(t:List PtM):leadR (p::t)=if p.kd=1 then (if (leadR t).nx.kd=4 then ⟨p::(leadR t).l,(p.tQ,(leadR t).nx.tQ)::(leadR t).o,(leadR t).nx⟩ else ⟨p::(leadR t).l,(leadR t).o,(leadR t).nx⟩)
  else ⟨ledP (leadR t).o p::(leadR t).l,(leadR t).o,ledP (leadR t).o p⟩:=rfl
theorem leadR_keep:∀z:List PtM,wtL (leadR z).l=wtL z∧((∀p∈z,Fin1 p)→∀p∈(leadR z).l,Fin1 p)∧(LastR z→LastR (leadR z).l)
 | []=>⟨rfl,fun _ p h=>(by simp [leadR] at h),fun h=>h⟩
 | p::t=>by
  obtain ⟨h1,h2,h3⟩:=leadR_keep t
  have e:∃q,(leadR (p::t)).l=q::(leadR t).l∧wtP q=wtP p∧(Fin1 p→Fin1 q)∧q.kd=p.kd∧q.i=p.i:=by
   rw [leadR_cons]
   by_cases k1:p.kd=1
   ·rw [if_pos k1]
    split
    ·exact ⟨p,rfl,rfl,id,rfl,rfl⟩
    ·exact ⟨p,rfl,rfl,id,rfl,rfl⟩
   ·rw [if_neg k1]
    refine ⟨_,rfl,wt_led _ _,fin_led,led_kd _ _,?_⟩
    unfold ledP
    split
    ·rfl
    ·split<;>rfl
  obtain ⟨q,e1,e2,e3,e4,e5⟩:=e
  rw [e1]
  refine ⟨by show wtP q+wtL (leadR t).l=wtP p+wtL t;rw [e2,h1],fun a r hr=>?_,fun a=>?_⟩
  ·rcases List.mem_cons.1 hr with rfl|hr
   ·exact e3 (a p List.mem_cons_self)
   ·exact h2 (fun x hx=>a x (List.mem_cons_of_mem _ hx)) r hr
  ·rcases a with ⟨rfl,a,b⟩|a
   ·exact Or.inl ⟨rfl,by rw [e4];exact a,by rw [e5];exact b⟩
   ·exact Or.inr (h3 a)
theorem leav_wt:∀l:List PtM,wtL (leavF l)≤wtL l∧(LastR l→LastR (leavF l))
 | []=>⟨Nat.le_refl _,fun h=>h⟩
 | p::t=>by
  obtain ⟨h1,h2⟩:=leav_wt t
  unfold leavF
  by_cases h:p.kd=4∧cnB p.tQ t=true
  ·rw [if_pos h]
   refine ⟨by show _≤wtP p+wtL t;omega,fun a=>?_⟩
   rcases a with ⟨_,a,_⟩|a
   ·omega
   ·exact h2 a
  ·rw [if_neg h]
   refine ⟨by show wtP p+wtL (leavF t)≤wtP p+wtL t;omega,fun a=>?_⟩
   rcases a with ⟨rfl,a⟩|a
   ·exact Or.inl ⟨rfl,a⟩
   ·exact Or.inr (h2 a)
theorem alive_wt:∀(l:List PtM)(e:Bool)(U:List (Int×Int)),wtL (aliveR e U l)≤wtL l
 | [],_,_=>Nat.le_refl _
 | p::t,e,U=>by
  unfold aliveR
  split
  ·have:=alive_wt t e U;show _≤wtP p+wtL t;omega
  ·split
   ·have:=alive_wt t e (cntW p (-1) U);show _≤wtP p+wtL t;omega
   ·have:=alive_wt t (endsB p) U;show wtP p+_≤wtP p+wtL t;omega
theorem alive_last:∀(l:List PtM)(e:Bool)(U:List (Int×Int))(c:Int→Int),(∀n,0≤c n)→(∀n,gW n U=c n+useL n l)→Fwd l→LastR l →
  LastR (aliveR e U l)∨(aliveR e U l=[]∧e=true∧∀n,HasN n l→c n=0)
 | [],_,_,_,_,_,_,h=>h.elim
 | p::t,e,U,c,hc,hU,hf,hl=>by
  obtain ⟨f1,f2,f3⟩:=hf
  unfold aliveR
  rcases hl with ⟨rfl,k2,k6⟩|hl
  ·rw [if_neg (fun a=>by omega)]
   by_cases h2:e=true∧p.kd≠1
   ·rw [if_pos h2]
    refine Or.inr ⟨rfl,h2.1,fun n a=>?_⟩
    rcases has_cons.1 a with ⟨a,_⟩|a
    ·omega
    ·exact absurd a (has_nil n)
   ·rw [if_neg h2];exact Or.inl (Or.inl ⟨rfl,k2,k6⟩)
  by_cases h1:p.kd=1∧gW p.tQ U=0
  ·rw [if_pos h1]
   have hz:=hU p.tQ
   have h0:=hc p.tQ
   have hu:=useL_nn p.tQ (p::t)
   have hnw:∀n,¬WayTo p n:=fun n a=>by rcases a with ⟨a,_⟩|⟨a,_⟩<;>omega
   rcases alive_last t e U c hc (fun n=>by rw [hU n,useL_cons,useN_no (hnw n)];omega) f1 hl with a|⟨a,b,d⟩
   ·exact Or.inl a
   ·refine Or.inr ⟨a,b,fun n x=>?_⟩
    rcases has_cons.1 x with ⟨_,x⟩|x
    ·rw [←x];omega
    ·exact d n x
  ·rw [if_neg h1]
   by_cases h2:e=true∧p.kd≠1
   ·rw [if_pos h2]
    rcases alive_last t e (cntW p (-1) U) c hc (fun n=>by rw [gW_cnt,hU n,useL_cons];omega) f1 hl with a|⟨a,b,d⟩
    ·exact Or.inl a
    ·refine Or.inr ⟨a,b,fun n x=>?_⟩
     rcases has_cons.1 x with ⟨x,_⟩|x
     ·exact absurd x h2.2
     ·exact d n x
   ·rw [if_neg h2]
    refine Or.inl ?_
    rcases alive_last t (endsB p) U (fun n=>c n+useN n p) (fun n=>by have:=hc n;have:=useN_nn n p;show 0≤c n+useN n p;omega) (fun n=>by rw [hU n,useL_cons];show _=c n+useN n p+useL n t;omega) f1 hl with a|⟨a,b,d⟩
    ·exact Or.inr a
    ·rw [a]
     refine Or.inl ⟨rfl,?_⟩
     have hb:=of_decide_eq_true b
     rcases hb with hb|hb
     ·have hw:WayTo p p.tQ:=Or.inr ⟨hb,rfl⟩
      have h3:c p.tQ+useN p.tQ p=0:=d p.tQ (f3 _ hw)
      have h4:=useN_way hw
      have h5:=hc p.tQ
      omega
     ·exact hb
theorem round_keep {l:List PtM}(hf:Fwd l)(hs:∀p∈l,Fin1 p)(hl:LastR l):wtL (roundF l)≤wtL l∧(∀p∈roundF l,Fin1 p)∧LastR (roundF l):=by
 obtain ⟨h1,h2,h3⟩:=leadR_keep l
 have hI:=lead_inv hf
 have ha:LastR (aliveF (leadF l)):=by
  rw [aliveF_rec,leadF_rec]
  rcases alive_last (leadR l).l false (usesW (leadR l).l) (fun _=>0) (fun _=>Int.le_refl _) (fun n=>by rw [gW_uses];show _=(0:Int)+_;omega) hI.fwd (h3 hl) with a|⟨_,a,_⟩
  ·exact a
  ·cases a
 unfold roundF
 refine ⟨?_,fun p hp=>?_,(leav_wt _).2 ha⟩
 ·have:=(leav_wt (aliveF (leadF l))).1
  have h5:=alive_wt (leadR l).l false (usesW (leadR l).l)
  rw [aliveF_rec,leadF_rec] at this ⊢
  omega
 ·have:=aliveF_sub (leavF_sub hp)
  rw [leadF_rec] at this
  exact h2 hs p this
theorem tidy_keep:∀(k:Nat)(x:List PtM),x.length<k→Fwd x→(∀p∈x,Fin1 p)→LastR x→wtL (tidyF x)≤wtL x∧(∀p∈tidyF x,Fin1 p)∧LastR (tidyF x)
 | 0,_,h,_,_,_=>by omega
 | k+1,x,h,hf,hs,hl=>by
  obtain ⟨r1,r2,r3⟩:=round_keep hf hs hl
  by_cases e:(roundF x).length=x.length
  ·rw [tidyF_end e];exact ⟨r1,r2,r3⟩
  ·rw [tidyF_on e]
   obtain ⟨t1,t2,t3⟩:=tidy_keep k (roundF x) (by have:=roundF_len x;omega) (round_fwd hf) r2 r3
   exact ⟨by omega,t2,t3⟩
end Go.Proofs.YtcnebdjhhfnmoaaGreatDoor.Ju
namespace Go.Proofs.YtcnebdjhhfnmoaaGreatDoor.Ju
theorem fin_plain {p:PtM}(hk:p.kd=2)(hc:p.i.c=32∨p.i.c=84∨p.i.c=6)(hr:rangeB p.i=true):Fin1 p:=⟨⟨fun _=>hc,fun a=>by omega⟩,Or.inr (Or.inl hk),fun _=>hr⟩
theorem fin_name {p:PtM}(hk:p.kd=1∨p.kd=4):Fin1 p:=⟨⟨fun a=>by omega,fun a=>by omega⟩,by omega,fun a=>by omega⟩
theorem last_appR:∀{a b:List PtM},LastR b→LastR (a++b)
 | [],_,h=>h
 | _::a,_,h=>Or.inr (last_appR (a:=a) h)
structure Runs (x z:List PtM):Prop where
 cod:Cod z (makeF z)
 good:Good (makeF z).2.ins
 says:∀W:Nat→Nat,(runN W (makeF z).2.ins).2=valL W x 0
/-! The law's own run of parts. -/
end Go.Proofs.YtcnebdjhhfnmoaaGreatDoor.Ju
namespace Go.Proofs
open Go.Shelf
def Tryz.lays103_ren:Go.Shelf.Ren:=⟨fun|103=>116|210=>151|206=>170|n=>n,fun|9=>9|4=>4|24=>228|3=>3|n=>n,fun|n=>n⟩
theorem Tryz.lays103:Go.Proofs.Lays.n103 Tryz.prog Tryz.lays103_ren:={
 mixed:=by kernel_rfl
 f103:=Tryz.func116.trans (congrArg some (by kernel_rfl))
 f206:=Tryz.func170.trans (congrArg some (by kernel_rfl))
 f210:=Tryz.func151.trans (congrArg some (by kernel_rfl))
 t3:=Tryz.underlying3
 a3:=Tryz.isAgg3
 z3:=Tryz.sizeOf3
 v3:=Tryz.zeroValue3
 t4:=Tryz.underlying4
 a4:=Tryz.isAgg4
 z4:=Tryz.sizeOf4
 v4:=Tryz.zeroValue4
 t9:=Tryz.underlying9
 a9:=Tryz.isAgg9
 z9:=Tryz.sizeOf9
 v9:=Tryz.zeroValue9
 t24:=Tryz.underlying228
 a24:=Tryz.isAgg228
 z24:=Tryz.sizeOf228
 v24:=Tryz.zeroValue228 }
open Go.RowKit in
theorem Tryz.strings_CutPrefix (s p:ByteArray)(w:World) :
  Calls Tryz.prog 116 #[.string s,.string p] w fun e w'=>e=.returned (.tuple #[.string ⟨(Lib.trimPrefix s.data.toList p.data.toList).toArray⟩,.bool (Lib.hasPrefix s.data.toList p.data.toList)])∧w'=w:=Any.strings_CutPrefix Tryz.lays103 s p w
def Tryz.lays146_ren:Go.Shelf.Ren:=⟨fun|146=>118|221=>153|268=>171|138=>172|143=>173|195=>184|197=>185|218=>186|219=>187|260=>196|217=>197|225=>198|224=>199|267=>200|266=>213|314=>214|n=>n,fun|9=>9|31=>117|3=>3|4=>4|0=>0|105=>299|21=>21|5=>5|46=>235|119=>320|139=>323|138=>322|146=>271|51=>22|n=>n,fun|1=>0|3=>1|4=>2|n=>n⟩
theorem Tryz.lays146:Go.Proofs.Lays.n146 Tryz.prog Tryz.lays146_ren:={
 mixed:=by kernel_rfl
 f138:=Tryz.func172.trans (congrArg some (by kernel_rfl))
 f143:=Tryz.func173.trans (congrArg some (by kernel_rfl))
 f146:=Tryz.func118.trans (congrArg some (by kernel_rfl))
 f195:=Tryz.func184.trans (congrArg some (by kernel_rfl))
 f197:=Tryz.func185.trans (congrArg some (by kernel_rfl))
 f217:=Tryz.func197.trans (congrArg some (by kernel_rfl))
 f218:=Tryz.func186.trans (congrArg some (by kernel_rfl))
 f219:=Tryz.func187.trans (congrArg some (by kernel_rfl))
 f221:=Tryz.func153.trans (congrArg some (by kernel_rfl))
 f224:=Tryz.func199.trans (congrArg some (by kernel_rfl))
 f225:=Tryz.func198.trans (congrArg some (by kernel_rfl))
 f260:=Tryz.func196.trans (congrArg some (by kernel_rfl))
 f266:=Tryz.func213.trans (congrArg some (by kernel_rfl))
 f267:=Tryz.func200.trans (congrArg some (by kernel_rfl))
 f268:=Tryz.func171.trans (congrArg some (by kernel_rfl))
 f314:=Tryz.func214.trans (congrArg some (by kernel_rfl))
 t0:=Tryz.underlying0
 a0:=Tryz.isAgg0
 z0:=Tryz.sizeOf0
 v0:=Tryz.zeroValue0
 t3:=Tryz.underlying3
 a3:=Tryz.isAgg3
 z3:=Tryz.sizeOf3
 v3:=Tryz.zeroValue3
 t4:=Tryz.underlying4
 a4:=Tryz.isAgg4
 z4:=Tryz.sizeOf4
 v4:=Tryz.zeroValue4
 t5:=Tryz.underlying5
 a5:=Tryz.isAgg5
 z5:=Tryz.sizeOf5
 v5:=Tryz.zeroValue5
 t9:=Tryz.underlying9
 a9:=Tryz.isAgg9
 z9:=Tryz.sizeOf9
 v9:=Tryz.zeroValue9
 t21:=Tryz.underlying21
 a21:=Tryz.isAgg21
 z21:=Tryz.sizeOf21
 v21:=Tryz.zeroValue21
 t31:=Tryz.underlying117
 a31:=Tryz.isAgg117
 z31:=Tryz.sizeOf117
 v31:=Tryz.zeroValue117
 t46:=Tryz.underlying235
 a46:=Tryz.isAgg235
 z46:=Tryz.sizeOf235
 v46:=Tryz.zeroValue235
 t51:=Tryz.underlying22
 a51:=Tryz.isAgg22
 z51:=Tryz.sizeOf22
 v51:=Tryz.zeroValue22
 t105:=Tryz.underlying299
 a105:=Tryz.isAgg299
 z105:=Tryz.sizeOf299
 v105:=Tryz.zeroValue299
 t119:=Tryz.underlying320
 a119:=Tryz.isAgg320
 z119:=Tryz.sizeOf320
 t138:=Tryz.underlying322
 a138:=Tryz.isAgg322
 z138:=Tryz.sizeOf322
 v138:=Tryz.zeroValue322
 t139:=Tryz.underlying323
 a139:=Tryz.isAgg323
 z139:=Tryz.sizeOf323
 v139:=Tryz.zeroValue323
 t146:=Tryz.underlying271
 a146:=Tryz.isAgg271
 z146:=Tryz.sizeOf271
 v146:=Tryz.zeroValue271
 g1:=by kernel_rfl
 g3:=by kernel_rfl
 g4:=by kernel_rfl }
open Go.RowKit Go.Lib in
theorem Tryz.strings_Split (s sep:ByteArray)(m:Int)(w:World)(hs:s.size<4294967281)(hm:w.cell? ⟨0,0,none⟩=some (.int .i64 m))(h1:1≤sep.size) :
  Calls Tryz.prog 118 #[.string s,.string sep] w fun e w'=>
   e=.returned (.slice (some ⟨w.heap.size,0,none⟩) (Lib.countB s sep+1) (Lib.countB s sep+1))∧w'=w.alloc (.cells ((Lib.splitB sep 0 (Lib.countB s sep) s).map Value.string).toArray 9):=Any.strings_Split Tryz.lays146 (by kernel_rfl) s sep m w hs hm h1
end Go.Proofs
namespace Go.Proofs.YtcnebdjhhfnmoaaGreatDoor
open Go.RowKit
def NoPost (t:Bs)(w:World)(e:Ending)(w':World):Prop:=e=.returned (.bool (noB t))∧Below w.heap.size w w'
theorem no_of {t:Bs}{b:Bool}{w w':World}{e:Ending}(h:noB t=b)(he:e=.returned (.bool b))(hb:Below w.heap.size w w'):NoPost t w e w':=by subst h;exact ⟨he,hb⟩
theorem conv_bytes (t:Bs)(w:World):∃(cp:Nat) (w1:World),(convert 9 32 (.string ⟨t.toArray⟩)).run Tryz.prog w=.ok (.slice (some ⟨w.heap.size,0,none⟩) t.length cp) w1 ∧
  (∀(k:Nat) (c:UInt8),t[k]?=some c→w1.cell? ⟨w.heap.size,k,none⟩=some (.int .u8 (c.toNat:Nat)))∧Below w.heap.size w w1:=by
 have hsz:(⟨t.toArray⟩:ByteArray).size=t.length:=by rw [Lib.size_eq]
 refine ⟨_,_,by rw [←hsz];exact Lib.run_convert_string_bytes (P:=Tryz.prog) w 9 32 5 ⟨t.toArray⟩ (u:=.string) Tryz.underlying9 Tryz.underlying32 Tryz.underlying5,fun k c hc=>?_,Lib.bytesWorld_below _ _ _⟩
 obtain ⟨h1,h2⟩:=List.getElem?_eq_some_iff.1 hc
 rw [Lib.bytesWorld_cell w 5 ⟨t.toArray⟩ k (by rw [hsz];exact h1)]
 simp [List.getD_eq_getElem?_getD,hc]
theorem hcl_lt {t:Bs}{w w1:World}(h:∀(k:Nat)(c:UInt8),t[k]?=some c→w1.cell? ⟨w.heap.size,k,none⟩=some (.int .u8 (c.toNat:Nat))):w.heap.size<w1.heap.size∨t.length=0:=by
 cases t with
 | nil=>exact .inr rfl
 | cons c t=>
  left
  have:=h 0 c rfl
  rcases Nat.lt_or_ge w.heap.size w1.heap.size with h'|h'
  ·exact h'
  ·simp [World.cell?,Array.getElem?_eq_none h'] at this
theorem noPart_any (t:Bs)(w:World)(ht:t.length≤70000):Calls Tryz.prog 119 #[.string ⟨t.toArray⟩] w (NoPost t w):=by
 by_cases h0:t=[]
 ·have HV:=qd (show noB t=true from noB_end (by simp [endB,h0]))
  subst h0
  go_enter Tryz.func119,Tryz.ntmps119
  go_wp2_with fail
  go_ret
  exact no_of HV.out rfl (Below.refl _ _)
 by_cases h1:t=[46]
 ·have HV:=qd (show noB t=true from noB_end (by simp [endB,h1]))
  subst h1
  go_enter Tryz.func119,Tryz.ntmps119
  go_wp2_with fail
  go_ret
  exact no_of HV.out rfl (Below.refl _ _)
 by_cases h2:t=[46,46]
 ·have HV:=qd (show noB t=true from noB_end (by simp [endB,h2]))
  subst h2
  go_enter Tryz.func119,Tryz.ntmps119
  go_wp2_with fail
  go_ret
  exact no_of HV.out rfl (Below.refl _ _)
 have e0:t.isEmpty=false:=by cases t<;>simp_all
 have g1:(t==[46])=false:=by simpa using h1
 have g2:(t==[46,46])=false:=by simpa using h2
 have hsz:(⟨t.toArray⟩:ByteArray).size=t.length:=by rw [Lib.size_eq]
 have HSz:=qd hsz
 by_cases h3:14<t.length
 ·have HV:=qd (show noB t=true from noB_end (by simp [endB,h3]))
  have g3:(14:Int)<(t.length:Int):=by omega
  have d3:decide ((14:Int)<(t.length:Int))=true:=decide_eq_true g3
  clear h0 h1 h2 h3
  go_enter Tryz.func119,Tryz.ntmps119
  go_wp2_with fail
  go_ret
  exact no_of HV.out rfl (Below.refl _ _)
 ·have HE:=qd (show endB t=false by simp [endB,h0,h1,h2,h3])
  have g3:¬(14:Int)<(t.length:Int):=by omega
  have d3:decide ((14:Int)<(t.length:Int))=false:=decide_eq_false g3
  have HL:=qd h3
  clear h0 h1 h2 h3
  obtain ⟨cp,w1,hcv,hcell,hb1⟩:=conv_bytes t w
  have HB1:=qd hb1
  have HC:=qd hcell
  have hlt1:w.heap.size<w1.heap.size∨t.length=0:=hcl_lt hcell
  clear hb1 hcell
  go_enter Tryz.func119,Tryz.ntmps119
  go_wp2_with fail
  go_loop [23] (fun iv=>∃k:Nat,iv=.int .i64 k∧k≤t.length∧Hid (∀c∈t.take k,prn c.toNat=true)) (fun iv=>t.length-(intOf iv).toNat)
  case atStart=>exact ⟨0,rfl,Nat.zero_le _,qd (by simp)⟩
  case round=>
   obtain ⟨k,rfl,hk,HT⟩:=hrel
   by_cases hlt:k<t.length
   ·obtain ⟨c,hc⟩:∃c,t[k]?=some c:=⟨_,List.getElem?_eq_getElem hlt⟩
    have c1:=HC.out k c hc
    have HX:=qd hc
    have hb1:w.heap.size<w1.heap.size:=by omega
    clear hc
    have hp:=fun W=>printable_any c.toNat W
    cases hq:prn c.toNat with
    | true=>
     rw [hq] at hp
     have HK:=qd (show ∀x∈t.take (k+1),prn x.toNat=true from fun x hx=>by
      rw [List.take_add_one,HX.out] at hx
      rcases List.mem_append.1 hx with h|h
      ·exact HT.out x h
      ·simp at h;subst h;exact hq)
     clear hq
     go_wp2_with fail
     refine (hp _).mono ?_
     rintro e w2 ⟨rfl,rfl⟩
     clear hp
     go_wp2_with fail
     go_round
     case rel=>exact ⟨k+1,by go_num,by omega,HK⟩
     case measure=>simp [intOf];omega
    | false=>
     rw [hq] at hp
     have HV:=qd (show noB t=true from noB_bad (List.mem_of_getElem? HX.out) hq)
     clear hq
     go_wp2_with fail
     refine (hp _).mono ?_
     rintro e w2 ⟨rfl,rfl⟩
     clear hp
     go_wp2_with fail
     go_ret
     exact no_of HV.out rfl HB1.out
   ·have HV:=qd (show noB t=false from noB_all HE.out (fun c hc=>HT.out c (by rw [List.take_of_length_le (by omega)];exact hc)))
    go_wp2_with fail
    go_ret
    exact no_of HV.out rfl HB1.out
end Go.Proofs.YtcnebdjhhfnmoaaGreatDoor
namespace Go.Proofs.YtcnebdjhhfnmoaaGreatDoor
open Go.RowKit
def strs (ws:List Bs):List Value:=ws.map fun x=>Value.string ⟨x.toArray⟩
theorem strs_at {ws:List Bs}{k:Nat}{x:Bs}(h:ws[k]?=some x):(strs ws)[k]?=some (.string ⟨x.toArray⟩):=by simp [strs,h]
structure Env (w:World):Prop where
 ml:∃m,w.cell? ⟨0,0,none⟩=some (.int .i64 m)
theorem cell_below {w w':World}{b o:Nat}{v:Value}(h:w.cell? ⟨b,o,none⟩=some v)(hb:Below w.heap.size w w'):w'.cell? ⟨b,o,none⟩=some v:=by
 have hl:b<w.heap.size:=by
  rcases Nat.lt_or_ge b w.heap.size with h'|h'
  ·exact h'
  ·simp [World.cell?,Array.getElem?_eq_none h'] at h
 exact (hb.cell (p:=⟨b,o,none⟩) hl).trans h
theorem Env.below {w w':World}(h:Env w)(hb:Below w.heap.size w w'):Env w':=
 ⟨by obtain ⟨m,h⟩:=h.ml;exact ⟨m,cell_below h hb⟩⟩
def IxPost (ws:List Bs)(w:World)(e:Ending)(w':World):Prop:=(∃v:Int,e=.returned (.int .i64 v)∧decide (0≤v)=ws.any noB)∧Below w.heap.size w w'
theorem indexS_any (ws:List Bs)(A:Option Addr)(n cap:Nat)(w:World)(hn:ws.length=n)(hr:Rd w 1 n A (strs ws))(hl:∀x∈ws,x.length≤70000)(hm:n≤70000) :
  Calls Tryz.prog 152 #[.slice A n cap,.func (.func 119) #[] #[]] w (IxPost ws w):=by
 have HR:=qd hr
 have HL:=qd hl
 have HN:=qd hn
 clear hr hl
 go_enter Tryz.func152,Tryz.ntmps152
 go_wp2_with fail
 go_loopw [8] (fun iv wr=>∃k:Nat,iv=.int .i64 k∧k≤n∧Hid ((ws.take k).any noB=false)∧Hid (Below w.heap.size w wr)) (fun iv _=>n-(intOf iv).toNat)
 case atStart=>exact ⟨0,rfl,Nat.zero_le _,rfl,Below.refl _ _⟩
 case round=>
  obtain ⟨k,rfl,hk,HT,HB⟩:=hrel
  by_cases hlt:k<n
  ·obtain ⟨x,hx⟩:∃x,ws[k]?=some x:=⟨_,List.getElem?_eq_getElem (by omega)⟩
   obtain ⟨b,o,rfl,hbl,hc⟩:=(HR.out.below HB.out).pos (by omega)
   have c1:=hc k _ (strs_at hx)
   have HX:=qd hx
   have hp:=fun W=>noPart_any x W (HL.out x (List.mem_of_getElem? hx))
   clear hc hx
   go_wp2_with fail
   refine (hp _).mono ?_
   clear hp c1
   rintro e w2 ⟨rfl,hb2⟩
   have HB2:=qd (HB.out.trans (hb2.mono HB.out.size))
   clear hb2
   cases hq:noB x with
   | true=>
    have HV:=qd (show decide ((0:Int)≤(k:Int))=ws.any noB by
     rw [decide_eq_true (by omega:(0:Int)≤(k:Int))]
     exact (List.any_eq_true.2 ⟨x,List.mem_of_getElem? HX.out,hq⟩).symm)
    clear hq
    go_wp2_with fail
    go_ret
    exact ⟨⟨_,rfl,HV.out⟩,HB2.out⟩
   | false=>
    have HK:=qd (show (ws.take (k+1)).any noB=false by
     rw [List.take_add_one,HX.out,List.any_append,HT.out];simp [hq])
    clear hq
    go_wp2_with fail
    go_roundw
    case rel=>exact ⟨k+1,by go_num,by omega,HK,HB2⟩
    case measure=>simp [intOf];omega
  ·have HV:=qd (show decide ((0:Int)≤-1)=ws.any noB by
    have:=HT.out
    rw [List.take_of_length_le (by have:=HN.out;omega)] at this
    rw [this];rfl)
   go_wp2_with fail
   go_ret
   exact ⟨⟨_,rfl,HV.out⟩,HB.out⟩
def BoolPost (b:Bool)(w:World)(e:Ending)(w':World):Prop:=e=.returned (.bool b)∧Below w.heap.size w w'
theorem containsS_any (ws:List Bs)(A:Option Addr)(n cap:Nat)(w:World)(hn:ws.length=n)(hr:Rd w 1 n A (strs ws))(hl:∀x∈ws,x.length≤70000)(hm:n≤70000) :
  Calls Tryz.prog 117 #[.slice A n cap,.func (.func 119) #[] #[]] w (BoolPost (ws.any noB) w):=by
 have hp:=indexS_any ws A n cap w hn hr hl hm
 go_enter Tryz.func117,Tryz.ntmps117
 go_wp2_with fail
 refine hp.mono ?_
 clear hp
 rintro e w2 ⟨⟨v,rfl,hv⟩,hb2⟩
 go_wp2_with fail
 go_ret
 refine ⟨?_,hb2⟩
 rw [←hv]
 rfl
def SplitPost (s:Bs)(w:World)(e:Ending)(w':World):Prop:=
 ∃A:Nat,e=.returned (.slice (some ⟨A,0,none⟩) (parts s).length (parts s).length)∧Rd w' 1 (parts s).length (some ⟨A,0,none⟩) (strs (parts s))∧Below w.heap.size w w'
theorem split_any (s:ByteArray)(w:World)(hs:s.size≤65536)(hE:Env w):Calls Tryz.prog 118 #[.string s,.string ⟨#[47]⟩] w (SplitPost s.data.toList w):=by
 obtain ⟨m,hm⟩:=hE.ml
 have hl:=splitB_parts s
 have hlen:Lib.countB s ⟨#[47]⟩+1=(parts s.data.toList).length:=by
  rw [←hl,List.length_map,Lib.splitB_all ⟨#[47]⟩ (by decide) 0 _ s rfl]
 have hst:(Lib.splitB ⟨#[47]⟩ 0 (Lib.countB s ⟨#[47]⟩) s).map Value.string=strs (parts s.data.toList):=by
  rw [←hl]
  unfold strs
  rw [List.map_map]
  exact List.map_congr_left (fun x _=>by simp)
 refine (Tryz.strings_Split s ⟨#[47]⟩ m w (by omega) hm (by decide)).mono ?_
 rintro e w' ⟨he,hw⟩
 rw [hlen] at he
 rw [hst] at hw
 subst hw
 exact ⟨w.heap.size,he,((Bk.new w _ _ rfl).seg (by simp [strs]) (Nat.le_refl _)).rd,(Below.refl _ _).alloc (Nat.le_refl _) _⟩
theorem path_false {s:Bs}{b:Bool}{w w':World}{e:Ending}(h:pathB s=b)(he:e=.returned (.bool b))(hb:Below w.heap.size w w'):BoolPost (pathB s) w e w':=by rw [h];exact ⟨he,hb⟩
theorem has_slash_no {s:Bs}(h:∀t,s≠47::t):Lib.hasPrefix s [47]=false∧pathB s=false:=by
 cases s with
 | nil=>exact ⟨rfl,rfl⟩
 | cons c t=>
  have hc:c≠47:=fun e=>h t (by rw [e])
  exact ⟨by simp [Lib.hasPrefix,List.isPrefixOf,Ne.symm hc],by simp [pathB,hc]⟩
theorem path_any (s:Bs)(w:World)(hs:s.length≤maxLen)(hE:Env w):Calls Tryz.prog 72 #[.string ⟨s.toArray⟩] w (BoolPost (pathB s) w):=by
 have hcp:=fun W=>Tryz.strings_CutPrefix ⟨s.toArray⟩ ⟨#[47]⟩ W
 unfold maxLen at hs
 by_cases hsl:∃t,s=47::t
 ·obtain ⟨t,rfl⟩:=hsl
  have e1:Lib.trimPrefix (⟨(47::t).toArray⟩:ByteArray).data.toList (⟨#[47]⟩:ByteArray).data.toList=t:=by simp [Lib.trimPrefix,Lib.hasPrefix,List.isPrefixOf]
  have e2:Lib.hasPrefix (⟨(47::t).toArray⟩:ByteArray).data.toList (⟨#[47]⟩:ByteArray).data.toList=true:=by simp [Lib.hasPrefix,List.isPrefixOf]
  rw [e1,e2] at hcp
  clear e1 e2
  have hsz:(⟨(47::t).toArray⟩:ByteArray).size=t.length+1:=by rw [Lib.size_eq];simp
  generalize hS:(⟨(47::t).toArray⟩:ByteArray)=S at *
  have HS:=qd hS
  clear hS
  have HE:=qd hE
  have hlen:t.length+1≤9223372036854775807:=by simpa using hs
  clear hE hs
  go_enter Tryz.func72,Tryz.ntmps72
  go_wp2_with fail
  refine (hcp _).mono ?_
  clear hcp
  rintro e w1 ⟨rfl,rfl⟩
  by_cases hl:120<t.length+1
  ·have g1:(120:Int)<(S.size:Int):=by omega
   have HV:=qd (show pathB (47::t)=false by simp [pathB,show ¬t.length+1≤120 by omega])
   go_wp2_with fail
   go_ret
   exact path_false HV.out rfl (Below.refl _ _)
  ·have g1:¬(120:Int)<(S.size:Int):=by omega
   have g2:decide ((120:Int)<(S.size:Int))=false:=decide_eq_false g1
   by_cases hne:t=[]
   ·have HV:=qd (show pathB (47::t)=true by subst hne;rfl)
    subst hne
    go_wp2_with fail
    go_ret
    exact path_false HV.out rfl (Below.refl _ _)
   ·have e0:t.isEmpty=false:=by cases t<;>simp_all
    have HV:=qd (show pathB (47::t) = !(parts t).any noB by simp [pathB,hne,show t.length+1≤120 by omega])
    clear hne hl
    go_wp2_with fail
    refine (split_any ⟨t.toArray⟩ _ (by rw [Lib.size_eq];simp;omega) HE.out).mono ?_
    rw [show (⟨t.toArray⟩:ByteArray).data.toList=t from rfl]
    rintro e w2 ⟨A,rfl,hr,hb2⟩
    have hpl:=parts_len t
    go_wp2_with fail
    refine (containsS_any (parts t) _ _ _ w2 rfl hr (fun x hx=>by have:=parts_mem t x hx;omega) (by omega)).mono ?_
    rintro e w3 ⟨rfl,hb3⟩
    go_wp2_with fail
    go_ret
    exact path_false HV.out rfl (hb2.trans (hb3.mono hb2.size))
 ·obtain ⟨h1,h2⟩:=has_slash_no (fun t e=>hsl ⟨t,e⟩)
  have e2:Lib.hasPrefix (⟨s.toArray⟩:ByteArray).data.toList (⟨#[47]⟩:ByteArray).data.toList=false:=h1
  rw [e2] at hcp
  have HV:=qd h2
  clear e2 h1 h2 hsl hE
  go_enter Tryz.func72,Tryz.ntmps72
  go_wp2_with fail
  refine (hcp _).mono ?_
  clear hcp
  rintro e w1 ⟨rfl,rfl⟩
  go_wp2_with fail
  go_ret
  exact path_false HV.out rfl (Below.refl _ _)
end Go.Proofs.YtcnebdjhhfnmoaaGreatDoor
namespace Go.Proofs.YtcnebdjhhfnmoaaGreatDoor
open Go.RowKit Go.ChangeShapes Go.WideShapes Go.ChangeAt Go.WideElems
theorem add_at' (b o j:Nat):(⟨b,o,none⟩:Addr).add j=⟨b,o+j,none⟩:=by unfold Addr.add;split<;>simp_all
theorem cell_lt {w:World}{a:Addr}{v:Value}(h:w.cell? a=some v):a.block<w.heap.size∧a.spot=none:=by
 refine ⟨?_,?_⟩
 ·unfold World.cell? at h
  split at h
  ·rename_i h2;exact (Array.getElem?_eq_some_iff.1 h2).1
  ·cases h
 ·unfold World.cell? at h
  split at h
  ·split at h
   ·cases h
   ·rename_i h3;simpa using h3
  ·cases h
theorem rd_of {w:World}{z n:Nat}{a:Addr}{xs:List Value}(hl:xs.length=n*z)(hz:0<z)(h:∀j u,xs[j]?=some u→w.cell? (a.add j)=some u):Rd w z n (some a) xs:=by
 refine ⟨hl,?_⟩
 rcases Nat.eq_zero_or_pos n with h0|h0
 ·exact .inl h0
 ·right
  have hp:0<xs.length:=by rw [hl];exact Nat.mul_pos h0 hz
  obtain ⟨h1,h2⟩:=cell_lt (h 0 _ (List.getElem?_eq_getElem hp))
  obtain ⟨b,o,spot⟩:=a
  have hs:spot=none:=by simpa [Addr.add] using h2
  subst hs
  exact ⟨b,o,rfl,by simpa [Addr.add] using h1,fun j u hu=>by rw [←add_at'];exact h j u hu⟩
def IsRow (k:IntKind)(w:World)(A:Option Addr)(len cap:Nat)(zs:List Int):Prop:=
 (A=none∧len=0∧cap=0∧zs=[])∨∃a,A=some a∧len≤cap∧cap≤maxLen∧zs.length=cap∧(∀i,i<zs.length→w.cell? (a.add i)=some (.int k (zs.getD i 0)))∧∀n∈zs,(Lit.int k n).wf=true
theorem row_u8 {w:World}{A:Option Addr}{len cap:Nat}{zs:List Int}(h:IsRow .u8 w A len cap zs):∃l:List Nat,l.length=len∧(∀x∈l,x<256)∧Rd w 1 len A (u8s l)∧len≤maxLen:=by
 rcases h with ⟨rfl,rfl,rfl,rfl⟩|⟨a,rfl,h1,h2,h3,h4,h5⟩
 ·exact ⟨[],rfl,by simp,Rd.nil _ _ _,by unfold maxLen;omega⟩
 ·have hb:∀z∈zs,0≤z∧z<256:=fun z hz=>by have:=bounds_u8 (h5 z hz);omega
  refine ⟨(zs.take len).map Int.toNat,by simp;omega,fun x hx=>?_,rd_of (by simp [u8s];omega) (by omega) (fun j u hu=>?_),by omega⟩
  ·obtain ⟨z,hz,rfl⟩:=List.mem_map.1 hx
   have:=hb z (List.mem_of_mem_take hz)
   omega
  ·unfold u8s at hu
   rw [List.map_map,List.getElem?_map] at hu
   cases hz:(zs.take len)[j]? with
   | none=>rw [hz] at hu;simp at hu
   | some z=>
    rw [hz] at hu
    simp only [Option.map_some,Function.comp_apply,Option.some.injEq] at hu
    have hm:=hb z (List.mem_of_mem_take (List.mem_of_getElem? hz))
    have hz2:zs[j]?=some z:=by
     rw [List.getElem?_take] at hz
     split at hz
     ·exact hz
     ·cases hz
    have hj:=(List.getElem?_eq_some_iff.1 hz2).1
    rw [h4 j hj,←hu]
    have:zs.getD j 0=z:=by rw [List.getD,hz2];rfl
    rw [this]
    have:((z.toNat:Nat):Int)=z:=by omega
    rw [this]
end Go.Proofs.YtcnebdjhhfnmoaaGreatDoor
