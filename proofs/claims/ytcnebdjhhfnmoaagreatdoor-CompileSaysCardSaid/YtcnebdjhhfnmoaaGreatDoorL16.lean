/- Actions as plain numbers: how strong, of which kind, which of two or many counts. -/
import Derived.Laws.BitsAllLaws
import Derived.Lib.BitFns
import Derived.Test.YtcnebdjhhfnmoaaGreatDoorL01
import Derived.WalkSpells
import Derived.Laws.ShiftsVarLaws
import Derived.IntWalk
import Derived.Laws.Rows
import Derived.Laws.Tables
import Derived.StillTailTactics
import Derived.Test.YtcnebdjhhfnmoaaGreatDoorProg
import Derived.WalkKit
import Derived.Lib.Hide
import Derived.Below
import Derived.Deep.QuietTactic
import Derived.BigQuiet
import Derived.Deep.RegionHeld3
import Derived.Deep.Slices
import Derived.ChangeArms
import Derived.ChangeSlices
import Derived.DataReads
import Derived.ProofKit
import Derived.ChangeOld
import Derived.SliceStrings
import Derived.OpenShut
set_option maxHeartbeats 32000000
set_option maxRecDepth 100000
namespace Go.Proofs.YtcnebdjhhfnmoaaGreatDoor.Rec
def strN (a:Nat):Nat:=if a / 65536=5 then 2 else if a / 65536=32764 then 1 else if a / 65536=32767 then 0 else 3
theorem strN_le (a:Nat):strN a≤3:=by unfold strN;split<;>(try split)<;>(try split)<;>omega
def kdOf (s:Nat):Nat:=if s=0 then 2147418112 else if s=1 then 2147221504 else if s=2 then 327680 else 2147483648
def rkOf (s:Nat):Int:=if s=0 then 2147418112 else if s=1 then 2147221504 else if s=2 then 327680 else -2147483648
def numN (a:Nat):Nat:=if strN a=2 then a%65536 else 0
def stg (a b:Nat):Nat:=if strN a<strN b then b else a
def clampN (e:Int):Nat:=(min (max e 0) 4095).toNat
theorem rk_lt {s t:Nat}(hs:s≤3)(ht:t≤3):rkOf t<rkOf s↔s<t:=by
 rcases (by omega:s=0∨s=1∨s=2∨s=3) with rfl|rfl|rfl|rfl<;>rcases (by omega:t=0∨t=1∨t=2∨t=3) with rfl|rfl|rfl|rfl<;>decide
theorem kd_inj {s t:Nat}(hs:s≤3)(ht:t≤3)(h:kdOf s=kdOf t):s=t:=by
 revert h
 rcases (by omega:s=0∨s=1∨s=2∨s=3) with rfl|rfl|rfl|rfl<;>rcases (by omega:t=0∨t=1∨t=2∨t=3) with rfl|rfl|rfl|rfl<;>decide
theorem kd_lt (s:Nat):kdOf s<4294967296:=by unfold kdOf;split<;>(try split)<;>(try split)<;>omega
theorem high (a:Nat)(h:a<4294967296):a&&&4294901760=a / 65536*65536:=by
 have h1:=Nat.and_div_two_pow (a:=a) (b:=4294901760) (n:=16)
 have h2:=Nat.and_mod_two_pow (a:=a) (b:=4294901760) (n:=16)
 have e1:=Nat.and_two_pow_sub_one_eq_mod (a / 65536) 16
 simp only [Nat.reducePow,Nat.reduceDiv,Nat.reduceMod,Nat.reduceSub,Nat.and_zero] at h1 h2 e1
 rw [e1] at h1
 omega
theorem andHigh (a:Nat)(h:a<4294967296):bits .and .u32 (a:Int) 4294901760=((a / 65536*65536:Nat):Int):=by
 rw [←high a h];exact u32_and_nat a 4294901760 h (by omega)
theorem andLow (a:Nat)(h:a<4294967296):bits .and .u32 (a:Int) 65535=((a%65536:Nat):Int):=by
 have e:=u32_and_nat a 65535 h (by omega)
 rw [Nat.and_two_pow_sub_one_eq_mod a 16] at e
 exact e
theorem orErrno (k:Nat)(h:k<65536):bits .or .u32 327680 (k:Int)=((327680+k:Nat):Int):=by
 have e:=u32_or_nat 327680 k (by omega) (by omega)
 rw [show (327680|||k:Nat)=327680+k from (Nat.two_pow_add_eq_or_of_lt (i:=16) (b:=k) (by omega) 5).symm] at e
 exact e
theorem stg_assoc (a b c:Nat):stg (stg a b) c=stg a (stg b c):=by
 unfold stg
 by_cases h1:strN a<strN b<;>by_cases h2:strN b<strN c<;>by_cases h3:strN a<strN c<;>simp [h1,h2,h3]<;>omega
def foldS:List Nat→Nat
 | []=>0
 | a::l=>l.foldl stg a
theorem foldl_stg (l:List Nat)(a b:Nat):l.foldl stg (stg a b)=stg a (l.foldl stg b):=by
 induction l generalizing b with
 | nil=>rfl
 | cons c l ih=>rw [List.foldl_cons,List.foldl_cons,stg_assoc,ih]
theorem foldS_append (l m:List Nat)(h:l≠[])(hm:m≠[]):foldS (l++m)=stg (foldS l) (foldS m):=by
 cases l with
 | nil=>exact absurd rfl h
 | cons a l=>
  cases m with
  | nil=>exact absurd rfl hm
  | cons b m=>simp only [foldS,List.cons_append,List.foldl_append,List.foldl_cons,foldl_stg]
theorem foldS_first:∀(l:List Nat),l≠[]→∃j:Nat,l[j]?=some (foldS l)∧(∀(i:Nat)(x:Nat),i<j→l[i]?=some x→strN x<strN (foldS l))∧∀x∈l,strN x≤strN (foldS l)
 | [],h=>absurd rfl h
 | [a],_=>⟨0,rfl,fun i x hi=>absurd hi (by omega),fun x hx=>by simp at hx;subst hx;simp [foldS]⟩
 | a::b::l,_=>by
  obtain ⟨j,h1,h2,h3⟩:=foldS_first (b::l) (by simp)
  have e:foldS (a::b::l)=stg a (foldS (b::l)):=by
   have:=foldS_append [a] (b::l) (by simp) (by simp)
   simpa [foldS] using this
  rw [e]
  by_cases h:strN a<strN (foldS (b::l))
  ·have e2:stg a (foldS (b::l))=foldS (b::l):=by unfold stg;rw [if_pos h]
   rw [e2]
   refine ⟨j+1,by simpa using h1,fun i x hi hx=>?_,fun x hx=>?_⟩
   ·cases i with
    | zero=>simp at hx;subst hx;exact h
    | succ i=>exact h2 i x (by omega) (by simpa using hx)
   ·rcases List.mem_cons.1 hx with rfl|hx
    ·omega
    ·exact h3 x hx
  ·have e2:stg a (foldS (b::l))=a:=by unfold stg;rw [if_neg h]
   rw [e2]
   refine ⟨0,rfl,fun i x hi=>absurd hi (by omega),fun x hx=>?_⟩
   rcases List.mem_cons.1 hx with rfl|hx
   ·omega
   ·have:=h3 x hx;omega
end Go.Proofs.YtcnebdjhhfnmoaaGreatDoor.Rec
namespace Go.Proofs.YtcnebdjhhfnmoaaGreatDoor.Rec
def leN (bs:List Nat)(o:Nat):Nat→Nat
 | 0=>0
 | n+1=>leN bs o n+256 ^ n*bs.getD (o+n) 0
def Small8 (bs:List Nat):Prop:=∀j,bs.getD j 0<256
theorem small8_of {bs:List Nat}(h:∀x∈bs,x<256):Small8 bs:=by
 intro j
 rw [List.getD_eq_getElem?_getD]
 by_cases hj:j<bs.length
 ·rw [List.getElem?_eq_getElem hj];exact h _ (List.getElem_mem hj)
 ·rw [List.getElem?_eq_none (by omega)];decide
theorem leN_lt {bs:List Nat}(h:Small8 bs)(o:Nat):∀n,leN bs o n<256 ^ n
 | 0=>by simp [leN]
 | n+1=>by
  have h1:=leN_lt h o n
  have h2:=h (o+n)
  have h3:256 ^ n*bs.getD (o+n) 0≤256 ^ n*255:=Nat.mul_le_mul_left _ (by omega)
  unfold leN
  rw [Nat.pow_succ]
  omega
theorem leN_byte {bs:List Nat}(h:Small8 bs)(o k:Nat):∀n,k<n→leN bs o n / 256 ^ k%256=bs.getD (o+k) 0
 | 0,hk=>absurd hk (by omega)
 | n+1,hk=>by
  have h1:=leN_lt h o n
  have h2:=h (o+k)
  unfold leN
  by_cases e:k=n
  ·subst e
   rw [Nat.add_mul_div_left _ _ (Nat.pow_pos (by omega)),Nat.div_eq_of_lt h1,Nat.zero_add,Nat.mod_eq_of_lt h2]
  ·have hk':k<n:=by omega
   rw [show (256:Nat) ^ n=256 ^ k*(256*256 ^ (n-k-1)) by rw [←Nat.pow_succ',←Nat.pow_add];congr 1;omega,Nat.mul_assoc,
    Nat.add_mul_div_left _ _ (Nat.pow_pos (by omega)),Nat.mul_assoc,Nat.add_mul_mod_self_left]
   exact leN_byte h o k n hk'
theorem leN_8 (bs:List Nat)(o:Nat):leN bs o 8=leN bs o 4+4294967296*leN bs (o+4) 4:=by
 simp only [leN,Nat.add_zero,Nat.add_assoc,Nat.reduceAdd]
 omega
theorem leN4_lt {bs:List Nat}(h:Small8 bs)(o:Nat):leN bs o 4<4294967296:=leN_lt h o 4
def bytesOf (n v:Nat):List Nat:=(List.range n).map fun i=>v / 256 ^ i%256
theorem bytesOf_len (n v:Nat):(bytesOf n v).length=n:=by simp [bytesOf]
theorem bytesOf_lt (n v:Nat):∀x∈bytesOf n v,x<256:=by
 intro x hx
 obtain ⟨i,_,rfl⟩:=List.mem_map.1 hx
 exact Nat.mod_lt _ (by omega)
theorem bytesOf_at (n v i:Nat)(h:i<n):(bytesOf n v).getD i 0=v / 256 ^ i%256:=by
 rw [List.getD_eq_getElem?_getD,bytesOf,List.getElem?_map,List.getElem?_range h];rfl
theorem leN_bytes (a c:List Nat)(m v:Nat):∀n,n≤m→leN (a++(bytesOf m v++c)) a.length n=v%256 ^ n
 | 0,_=>by simp [leN,Nat.mod_one]
 | n+1,h=>by
  unfold leN
  rw [leN_bytes a c m v n (by omega),Nat.mod_pow_succ]
  have hl:(a++(bytesOf m v++c)).getD (a.length+n) 0=v / 256 ^ n%256:=by
   rw [List.getD_eq_getElem?_getD,List.getElem?_append_right (by omega),Nat.add_sub_cancel_left,List.getElem?_append_left (by rw [bytesOf_len];omega),←List.getD_eq_getElem?_getD]
   exact bytesOf_at m v n (by omega)
  rw [hl]
theorem leN_part {bs a c:List Nat}{m v o:Nat}(h:bs=a++(bytesOf m v++c))(ho:o=a.length)(hv:v<256 ^ m):leN bs o m=v:=by
 subst h ho
 rw [leN_bytes a c m v m (Nat.le_refl _)];exact Nat.mod_eq_of_lt hv
theorem record_bytes (n0 n1 n2 n3 n4 n5 n6 n7 n8:Nat)(h0:n0<256 ^ 4)(h1:n1<256 ^ 4)(h2:n2<256 ^ 8)(h3:n3<256 ^ 8)(h4:n4<256 ^ 8)(h5:n5<256 ^ 8)(h6:n6<256 ^ 8)(h7:n7<256 ^ 8)(h8:n8<256 ^ 8) :
  ∃bs:List Nat,bs.length=64∧(∀x∈bs,x<256)∧leN bs 0 4=n0∧leN bs 4 4=n1∧leN bs 8 8=n2∧leN bs 16 8=n3∧leN bs 24 8=n4∧leN bs 32 8=n5∧leN bs 40 8=n6∧leN bs 48 8=n7∧leN bs 56 8=n8:=by
 refine ⟨bytesOf 4 n0++(bytesOf 4 n1++(bytesOf 8 n2++(bytesOf 8 n3++(bytesOf 8 n4++(bytesOf 8 n5++(bytesOf 8 n6++(bytesOf 8 n7++bytesOf 8 n8))))))),?_,?_,?_,?_,?_,?_,?_,?_,?_,?_,?_⟩
 ·simp [bytesOf_len]
 ·intro x hx
  simp only [List.mem_append] at hx
  rcases hx with h|h|h|h|h|h|h|h|h<;>exact bytesOf_lt _ _ x h
 ·exact leN_part (a:=[]) rfl rfl h0
 ·exact leN_part (a:=bytesOf 4 n0) rfl (by simp [bytesOf_len]) h1
 ·exact leN_part (a:=bytesOf 4 n0++bytesOf 4 n1) (by simp only [List.append_assoc];rfl) (by simp [bytesOf_len]) h2
 ·exact leN_part (a:=bytesOf 4 n0++bytesOf 4 n1++bytesOf 8 n2) (by simp only [List.append_assoc];rfl) (by simp [bytesOf_len]) h3
 ·exact leN_part (a:=bytesOf 4 n0++bytesOf 4 n1++bytesOf 8 n2++bytesOf 8 n3) (by simp only [List.append_assoc];rfl) (by simp [bytesOf_len]) h4
 ·exact leN_part (a:=bytesOf 4 n0++bytesOf 4 n1++bytesOf 8 n2++bytesOf 8 n3++bytesOf 8 n4) (by simp only [List.append_assoc];rfl) (by simp [bytesOf_len]) h5
 ·exact leN_part (a:=bytesOf 4 n0++bytesOf 4 n1++bytesOf 8 n2++bytesOf 8 n3++bytesOf 8 n4++bytesOf 8 n5) (by simp only [List.append_assoc];rfl) (by simp [bytesOf_len]) h6
 ·exact leN_part (a:=bytesOf 4 n0++bytesOf 4 n1++bytesOf 8 n2++bytesOf 8 n3++bytesOf 8 n4++bytesOf 8 n5++bytesOf 8 n6) (by simp only [List.append_assoc];rfl) (by simp [bytesOf_len]) h7
 ·exact leN_part (a:=bytesOf 4 n0++bytesOf 4 n1++bytesOf 8 n2++bytesOf 8 n3++bytesOf 8 n4++bytesOf 8 n5++bytesOf 8 n6++bytesOf 8 n7) (c:=[]) (by simp only [List.append_assoc,List.append_nil]) (by simp [bytesOf_len]) h8
def fil (bs:List Nat)(o:Nat):List Value:=u8s (bs.take o++List.replicate (64-o) 0)
theorem fil_at (bs:List Nat)(o:Nat)(h:bs.length=64)(ho:o<64):(fil bs o)[o]?=some (.int .u8 0):=by
 simp only [fil,u8s,List.getElem?_map]
 rw [List.getElem?_append_right (by simp [h];omega)]
 simp [h,List.getElem?_replicate,Nat.min_eq_left (Nat.le_of_lt ho)]
 omega
theorem fil_set (bs:List Nat)(o:Nat)(h:bs.length=64)(ho:o<64):(fil bs o).set o (.int .u8 (bs.getD o 0:Nat))=fil bs (o+1):=by
 have e1:bs.take (o+1)=bs.take o++[bs.getD o 0]:=by
  rw [List.take_succ_eq_append_getElem (by omega),List.getD_eq_getElem?_getD,List.getElem?_eq_getElem (by omega)];rfl
 have e2:List.replicate (64-o) (0:Nat)=0::List.replicate (64-(o+1)) 0:=by
  rw [←List.replicate_succ];congr 1;omega
 simp only [fil,u8s,e1,e2,List.map_append,List.map_cons,List.append_assoc,List.cons_append,List.nil_append]
 rw [List.set_append_right _ _ (by simp [h];omega)]
 congr 1
 simp [h,Nat.min_eq_left (Nat.le_of_lt ho)]
theorem fil_all (bs:List Nat)(h:bs.length=64):fil bs 64=u8s bs:=by simp [fil,←h]
theorem fil_none (bs:List Nat):fil bs 0=u8s (List.replicate 64 0):=by simp [fil]
theorem u8s_getD {bs:List Nat}{j:Nat}(h:j<bs.length):(u8s bs)[j]?=some (.int .u8 (bs.getD j 0:Nat)):=by
 simp [u8s,List.getD_eq_getElem?_getD,List.getElem?_eq_getElem h]
theorem or64 (x y i m:Nat)(h0:x<2 ^ i)(h1:y<256)(hi:i≤56)(hm:m=2 ^ i):bits .or .u64 (x:Int) ((y:Int)*(m:Nat))=((x+m*y:Nat):Int):=by
 subst hm
 have hp:2 ^ i≤2 ^ 56:=Nat.pow_le_pow_right (by omega) hi
 have hy:2 ^ i*y≤2 ^ 56*255:=Nat.mul_le_mul hp (by omega)
 have e:=u64_or_nat x (2 ^ i*y) (by omega) (by omega)
 have e2:((2 ^ i*y:Nat):Int)=(y:Int)*((2 ^ i:Nat):Int):=by rw [Int.natCast_mul,Int.mul_comm]
 rw [e2] at e
 rw [e,Nat.or_comm,←Nat.two_pow_add_eq_or_of_lt h0 y,Nat.add_comm]
end Go.Proofs.YtcnebdjhhfnmoaaGreatDoor.Rec
namespace Go.Proofs.YtcnebdjhhfnmoaaGreatDoor.Rec
open Go.RowKit
def At (w:World)(g:Nat)(bs:List Nat)(o n:Nat):Prop:=∀j,j<n→w.cell? ⟨g,o+j,none⟩=some (.int .u8 (bs.getD (o+j) 0:Nat))
theorem At.of {w:World}{g t:Nat}{bs:List Nat}(h:Bk w g t (u8s bs)){o n:Nat}(hn:o+n≤bs.length):At w g bs o n:=fun j hj=>h.cell (o+j) (u8s_getD (by omega))
theorem take_any (bs:List Nat)(g o n cap:Nat)(w:World)(hb:Small8 bs)(hn:n≤8)(hr:At w g bs o n) :
  Calls Tryz.prog 175 #[.slice (some ⟨g,o,none⟩) n cap] w fun e w'=>e=.returned (.int .u64 (leN bs o n:Nat))∧w=w':=by
 have Hb:=qd hb
 have Hr:=qd hr
 clear hb hr
 go_enter Tryz.func175,Tryz.ntmps175
 go_wp2_with fail
 go_loop [3,8] (fun v i=>∃k y:Nat,k≤n∧i=.int .i64 k∧v=.int .u64 y∧Hid (y=leN bs o k)) (fun _ i=>n-(intOf i).toNat)
 case atStart=>exact ⟨0,0,by omega,rfl,rfl,qd rfl⟩
 case round=>
  obtain ⟨k,y,hk,rfl,rfl,Hy⟩:=hrel
  by_cases hlt:k<n
  ·have hc:=Hr.out k hlt
   have hx:=Hb.out (o+k)
   have hy:y<256 ^ k:=by rw [Hy.out];exact leN_lt Hb.out o k
   have hs:leN bs o (k+1)=y+256 ^ k*bs.getD (o+k) 0:=by rw [Hy.out];rfl
   obtain ⟨x,hxd⟩:∃x,x=bs.getD (o+k) 0:=⟨_,rfl⟩
   rw [←hxd] at hc hx hs
   clear hxd
   rcases (by omega:k=0∨k=1∨k=2∨k=3∨k=4∨k=5∨k=6∨k=7) with rfl|rfl|rfl|rfl|rfl|rfl|rfl|rfl
   ·rw [Nat.add_zero] at hc
    have e:bits .or .u64 (y:Int) (x:Int)=((y+x:Nat):Int):=by
     have h:=or64 y x 0 1 (by omega) hx (by omega) rfl
     simpa using h
    have E:=qd e
    have Hs:=qd hs
    clear e hs
    go_wp2_with fail
    go_roundw
    case rel=>exact ⟨1,y+x,by omega,rfl,congrArg (Value.int .u64) E.out,qd (by rw [Hs.out];simp)⟩
    case measure=>simp [intOf];omega
   ·have e:bits .or .u64 (y:Int) ((x:Int)*256)=((y+256*x:Nat):Int):=or64 y x 8 256 (by simpa using hy) hx (by omega) rfl
    have E:=qd e
    have Hs:=qd hs
    clear e hs
    go_wp2_with fail
    go_roundw
    case rel=>exact ⟨2,y+256*x,by omega,rfl,congrArg (Value.int .u64) E.out,qd (by rw [Hs.out])⟩
    case measure=>simp [intOf];omega
   ·have e:bits .or .u64 (y:Int) ((x:Int)*65536)=((y+65536*x:Nat):Int):=or64 y x 16 65536 (by simpa using hy) hx (by omega) rfl
    have E:=qd e
    have Hs:=qd hs
    clear e hs
    go_wp2_with fail
    go_roundw
    case rel=>exact ⟨3,y+65536*x,by omega,rfl,congrArg (Value.int .u64) E.out,qd (by rw [Hs.out])⟩
    case measure=>simp [intOf];omega
   ·have e:bits .or .u64 (y:Int) ((x:Int)*16777216)=((y+16777216*x:Nat):Int):=or64 y x 24 16777216 (by simpa using hy) hx (by omega) rfl
    have E:=qd e
    have Hs:=qd hs
    clear e hs
    go_wp2_with fail
    go_roundw
    case rel=>exact ⟨4,y+16777216*x,by omega,rfl,congrArg (Value.int .u64) E.out,qd (by rw [Hs.out])⟩
    case measure=>simp [intOf];omega
   ·have e:bits .or .u64 (y:Int) ((x:Int)*4294967296)=((y+4294967296*x:Nat):Int):=or64 y x 32 4294967296 (by simpa using hy) hx (by omega) rfl
    have E:=qd e
    have Hs:=qd hs
    clear e hs
    go_wp2_with fail
    go_roundw
    case rel=>exact ⟨5,y+4294967296*x,by omega,rfl,congrArg (Value.int .u64) E.out,qd (by rw [Hs.out])⟩
    case measure=>simp [intOf];omega
   ·have e:bits .or .u64 (y:Int) ((x:Int)*1099511627776)=((y+1099511627776*x:Nat):Int):=or64 y x 40 1099511627776 (by simpa using hy) hx (by omega) rfl
    have E:=qd e
    have Hs:=qd hs
    clear e hs
    go_wp2_with fail
    go_roundw
    case rel=>exact ⟨6,y+1099511627776*x,by omega,rfl,congrArg (Value.int .u64) E.out,qd (by rw [Hs.out])⟩
    case measure=>simp [intOf];omega
   ·have e:bits .or .u64 (y:Int) ((x:Int)*281474976710656)=((y+281474976710656*x:Nat):Int):=or64 y x 48 281474976710656 (by simpa using hy) hx (by omega) rfl
    have E:=qd e
    have Hs:=qd hs
    clear e hs
    go_wp2_with fail
    go_roundw
    case rel=>exact ⟨7,y+281474976710656*x,by omega,rfl,congrArg (Value.int .u64) E.out,qd (by rw [Hs.out])⟩
    case measure=>simp [intOf];omega
   ·have e:bits .or .u64 (y:Int) ((x:Int)*72057594037927936)=((y+72057594037927936*x:Nat):Int):=or64 y x 56 72057594037927936 (by simpa using hy) hx (by omega) rfl
    have E:=qd e
    have Hs:=qd hs
    clear e hs
    go_wp2_with fail
    go_roundw
    case rel=>exact ⟨8,y+72057594037927936*x,by omega,rfl,congrArg (Value.int .u64) E.out,qd (by rw [Hs.out])⟩
    case measure=>simp [intOf];omega
  ·obtain rfl:k=n:=by omega
   have He:=qd Hy.out.symm
   go_wp2_with fail
   go_ret
   exact ⟨by rw [He.out];rfl,rfl⟩
theorem put_any (bs:List Nat)(g T o n cap v:Nat)(w:World)(hl:bs.length=64)(hb:Small8 bs)(hn:n≤8)(ho:o+n≤64)(hv:v=leN bs o n)(hr:Bk w g T (fil bs o)) :
  Calls Tryz.prog 188 #[.slice (some ⟨g,o,none⟩) n cap,.int .u64 v] w fun e w'=>e=.returned (.tuple #[])∧(Bk w' g T (fil bs (o+n))∧w.grownBy w' (some g)):=by
 have Hl:=qd hl
 have Hb:=qd hb
 have Hv:=qd hv
 have Hr:=qd hr
 clear hb hv hr hl
 go_enter Tryz.func188,Tryz.ntmps188
 go_wp2_with fail
 go_loopw [7] (fun i wr=>∃k:Nat,k≤n∧i=.int .i64 k∧Hid (Bk wr g T (fil bs (o+k)))∧Hid (w.grownBy wr (some g))) (fun i _=>n-(intOf i).toNat)
 case atStart=>exact ⟨0,by omega,rfl,Hr,qd (only_refl _ _)⟩
 case round=>
  obtain ⟨k,hk,rfl,Rb,Rg⟩:=hrel
  by_cases hlt:k<n
  ·have hc:=Rb.out.cell (o+k) (fil_at bs (o+k) Hl.out (by omega))
   have hf:=Rb.out.fz (o+k)
   have hx:=leN_byte Hb.out o k n hlt
   rw [←Hv.out] at hx
   have hnew:=Rb.out.set (o+k) (.int .u8 (bs.getD (o+k) 0:Nat))
   rw [fil_set bs (o+k) Hl.out (by omega)] at hnew
   have hgr:=only_trans Rg.out (only_set wr g (o+k) (.int .u8 (bs.getD (o+k) 0:Nat)))
   obtain ⟨x,hxd⟩:∃x,x=bs.getD (o+k) 0:=⟨_,rfl⟩
   rw [←hxd] at hx hnew hgr
   have Hnew:=qd hnew
   have Hgr:=qd hgr
   clear hxd hnew hgr
   rcases (by omega:k=0∨k=1∨k=2∨k=3∨k=4∨k=5∨k=6∨k=7) with rfl|rfl|rfl|rfl|rfl|rfl|rfl|rfl
   ·rw [Nat.add_zero] at hc hf Hnew Hgr
    have e:(v:Int)%256=x:=by omega
    clear hx
    go_wp2_with fail
    go_roundw
    case rel=>exact ⟨1,by omega,rfl,Hnew,Hgr⟩
    case measure=>simp [intOf];omega
   ·have e:(v:Int) / 256%256=x:=by omega
    clear hx
    go_wp2_with fail
    go_roundw
    case rel=>exact ⟨2,by omega,rfl,Hnew,Hgr⟩
    case measure=>simp [intOf];omega
   ·have e:(v:Int) / 65536%256=x:=by omega
    clear hx
    go_wp2_with fail
    go_roundw
    case rel=>exact ⟨3,by omega,rfl,Hnew,Hgr⟩
    case measure=>simp [intOf];omega
   ·have e:(v:Int) / 16777216%256=x:=by omega
    clear hx
    go_wp2_with fail
    go_roundw
    case rel=>exact ⟨4,by omega,rfl,Hnew,Hgr⟩
    case measure=>simp [intOf];omega
   ·have e:(v:Int) / 4294967296%256=x:=by omega
    clear hx
    go_wp2_with fail
    go_roundw
    case rel=>exact ⟨5,by omega,rfl,Hnew,Hgr⟩
    case measure=>simp [intOf];omega
   ·have e:(v:Int) / 1099511627776%256=x:=by omega
    clear hx
    go_wp2_with fail
    go_roundw
    case rel=>exact ⟨6,by omega,rfl,Hnew,Hgr⟩
    case measure=>simp [intOf];omega
   ·have e:(v:Int) / 281474976710656%256=x:=by omega
    clear hx
    go_wp2_with fail
    go_roundw
    case rel=>exact ⟨7,by omega,rfl,Hnew,Hgr⟩
    case measure=>simp [intOf];omega
   ·have e:(v:Int) / 72057594037927936%256=x:=by omega
    clear hx
    go_wp2_with fail
    go_roundw
    case rel=>exact ⟨8,by omega,rfl,Hnew,Hgr⟩
    case measure=>simp [intOf];omega
  ·obtain rfl:k=n:=by omega
   go_wp2_with fail
   go_end0
   exact ⟨rfl,Rb.out,Rg.out⟩
end Go.Proofs.YtcnebdjhhfnmoaaGreatDoor.Rec
namespace Go.Proofs.YtcnebdjhhfnmoaaGreatDoor.Rec
open Go.RowKit
theorem Bk.row {w:World}{g t:Nat}{l:List Value}(h:Bk w g t l)(l':List Value):Bk (w.setRow g l'.toArray) g t l':=setRow_heap w g l.toArray l'.toArray t (0,0) h
theorem only_row (w:World)(g:Nat)(cs:Array Value):w.grownBy (w.setRow g cs) (some g):=
 ⟨rfl,rfl,rfl,by simp [World.setRow],fun i _ hn=>by
  simp only [World.setRow,Array.getElem?_modify]
  rw [if_neg (fun e=>hn (by rw [e]))]⟩
section
variable {w:World} {g t ty n e:Nat} {l l':List Value} {ops:Array Oper} {rest:List Oper} {o:Oper} {a:Act} {Q:Exit→Act→World→Prop}
theorem ld_row (h:Bk w g t l)(hgd:o.guard=none)(x:Operand)(ho:o.op=.load ty x)(hx:a.eval x=.pointer (some ⟨g,0,none⟩))(hu:Tryz.prog.underlying ty=some (.array n e))(hi:(Tryz.prog.info? ty).map (·.size)=some n)(hl:l.length=n)
  (hK:wpList Tryz.prog ops Q rest (a.put o.dst (.agg l.toArray)) w):wpList Tryz.prog ops Q (o::rest) a w:=
 wpList_load_row hgd ty x ho g hx t l.toArray (0,0) _ h hu rfl (by rw [hi,List.size_toArray,hl]) hK
theorem st_row (h:Bk w g t l)(hgd:o.guard=none)(x y:Operand)(ho:o.op=.store ty x y)(hx:a.eval x=.pointer (some ⟨g,0,none⟩))(hy:a.eval y=.agg l'.toArray)(hi:(Tryz.prog.info? ty).map (·.size)=some n)(hl:l.length=n)(hl':l'.length=n)(h1:l'.toArray.all (·.oneCell')=true)
  (hK:wpList Tryz.prog ops Q rest (a.put o.dst undef) (w.setRow g l'.toArray)):wpList Tryz.prog ops Q (o::rest) a w:=
 wpList_store_row hgd ty x y ho g l'.toArray hx hy t l.toArray h (by rw [hi,List.size_toArray,hl']) (by rw [List.size_toArray,List.size_toArray,hl,hl']) h1 hK
end
theorem size64:(Tryz.prog.info? 289).map (·.size)=some 64:=by kernel_rfl
theorem u8s_len {bs:List Nat}(h:bs.length=64):(u8s bs).length=64:=by simp [u8s,h]
theorem u8s_all (bs:List Nat):(u8s bs).toArray.all (·.oneCell')=true:=by
 simp only [u8s,List.all_toArray,List.all_map,List.all_eq_true]
 intro x _
 rfl
section
variable {w:World} {g t ty n:Nat} {d:Array Field} {l l':List Value} {ops:Array Oper} {rest:List Oper} {o:Oper} {a:Act} {Q:Exit→Act→World→Prop}
theorem ld_any (h:Bk w g t l)(hgd:o.guard=none)(x:Operand)(ho:o.op=.load ty x)(hx:a.eval x=.pointer (some ⟨g,0,none⟩))(hu:Tryz.prog.underlying ty=some (.struct d))(hi:(Tryz.prog.info? ty).map (·.size)=some n)(hl:l.length=n)
  (hK:wpList Tryz.prog ops Q rest (a.put o.dst (.agg l.toArray)) w):wpList Tryz.prog ops Q (o::rest) a w:=
 wpList_load_row hgd ty x ho g hx t l.toArray (0,0) _ h hu rfl (by rw [hi,List.size_toArray,hl]) hK
end
theorem exec_load {P:Program}{o:Oper}{ρ:Operand→Value}{w:World}{v:Value}{ty:TypeId}{x:Operand}{g:Nat}(ho:o.op=.load ty x)(hx:ρ x=.pointer (some ⟨g,0,none⟩))
  (h:(Instr.loadAt ty (.pointer (some ⟨g,0,none⟩))).run P w=.ok v w):(execOp ρ o).run P w=.ok (.value v) w:=by
 unfold execOp
 simp only [ho,hx,Sem.run_bind,h,Sem.run_pure,Result.andThen_ok]
def OnlyTo (fr:Act)(wd:World):Exit→Act→World→Prop
 | .normal,a,w=>a=fr∧w=wd
 | _,_,_=>False
theorem OnlyTo.here (fr:Act)(wd:World):OnlyTo fr wd .normal fr wd:=⟨rfl,rfl⟩
theorem wp_once {P:Program}{c:Code}{Q:Exit→Act→World→Prop}{a:Act}{w:World}(fr:Act)(wd:World)(h:c.wp P (OnlyTo fr wd) a w)(hK:Q .normal fr wd):c.wp P Q a w:=
 Code.wp_mono (fun e a w h=>by
  cases e with
  | normal=>obtain ⟨rfl,rfl⟩:=h;exact hK
  | _=>exact (h:False).elim) h
theorem size9:(Tryz.prog.info? 60).map (·.size)=some 9:=by kernel_rfl
end Go.Proofs.YtcnebdjhhfnmoaaGreatDoor.Rec
namespace Go.Proofs.YtcnebdjhhfnmoaaGreatDoor.Rec
open Go.RowKit
def recL (bs:List Nat):List Value:=[.int .u32 (leN bs 0 4:Nat),.int .u32 (leN bs 4 4:Nat),.int .u64 (leN bs 8 8:Nat),.int .u64 (leN bs 16 8:Nat),.int .u64 (leN bs 24 8:Nat),.int .u64 (leN bs 32 8:Nat),.int .u64 (leN bs 40 8:Nat),.int .u64 (leN bs 48 8:Nat),.int .u64 (leN bs 56 8:Nat)]
theorem zs64:(#[.int .u8 0,.int .u8 0,.int .u8 0,.int .u8 0,.int .u8 0,.int .u8 0,.int .u8 0,.int .u8 0,.int .u8 0,.int .u8 0,.int .u8 0,.int .u8 0,.int .u8 0,.int .u8 0,.int .u8 0,.int .u8 0,.int .u8 0,.int .u8 0,.int .u8 0,.int .u8 0,.int .u8 0,.int .u8 0,.int .u8 0,.int .u8 0,.int .u8 0,.int .u8 0,.int .u8 0,.int .u8 0,.int .u8 0,.int .u8 0,.int .u8 0,.int .u8 0,.int .u8 0,.int .u8 0,.int .u8 0,.int .u8 0,.int .u8 0,.int .u8 0,.int .u8 0,.int .u8 0,.int .u8 0,.int .u8 0,.int .u8 0,.int .u8 0,.int .u8 0,.int .u8 0,.int .u8 0,.int .u8 0,.int .u8 0,.int .u8 0,.int .u8 0,.int .u8 0,.int .u8 0,.int .u8 0,.int .u8 0,.int .u8 0,.int .u8 0,.int .u8 0,.int .u8 0,.int .u8 0,.int .u8 0,.int .u8 0,.int .u8 0,.int .u8 0]:Array Value)=(u8s (List.replicate 64 0)).toArray:=by rfl
structure Mem (w wx:World)(cs:List Value)(bs:List Nat)(o:Nat):Prop where
 rc:Bk wx w.heap.size 60 cs
 ans:Bk wx (w.heap.size+1) 289 (u8s (List.replicate 64 0))
 loc:Bk wx (w.heap.size+1+1) 289 (fil bs o)
 bel:Below w.heap.size w wx
theorem Mem.put {w wx w':World}{cs:List Value}{bs:List Nat}{o o':Nat}(h:Mem w wx cs bs o)(hb:Bk w' (w.heap.size+1+1) 289 (fil bs o'))(hg:wx.drew.grownBy w' (some (w.heap.size+1+1))):Mem w w' cs bs o':=
 ⟨h.rc.drew.grown hg (by simp;omega),h.ans.drew.grown hg (by simp),hb,only_below h.bel.drew hg (by have:=h.ans.lt;show w.heap.size≤wx.heap.size;omega) (by omega)⟩
theorem Mem.put' {w wx w':World}{cs:List Value}{bs:List Nat}{o o':Nat}(h:Mem w wx cs bs o)(hb:Bk w' (w.heap.size+1+1) 289 (fil bs o'))(hg:wx.grownBy w' (some (w.heap.size+1+1))):Mem w w' cs bs o':=
 ⟨h.rc.grown hg (by simp;omega),h.ans.grown hg (by simp),hb,only_below h.bel hg (by have:=h.ans.lt;omega) (by omega)⟩
theorem mem_of (w:World)(a:Array Value)(cs:List Value)(bs:List Nat)(h:a=cs.toArray):Mem w (((w.alloc (.cells a 60)).alloc (.cells (u8s (List.replicate 64 0)).toArray 289)).alloc (.cells (u8s (List.replicate 64 0)).toArray 289)) cs bs 0:=by
 have b1:=(Below.refl w.heap.size w).alloc (Nat.le_refl _) (.cells a 60)
 have b2:=b1.alloc b1.size (.cells (u8s (List.replicate 64 0)).toArray 289)
 have b3:=b2.alloc b2.size (.cells (u8s (List.replicate 64 0)).toArray 289)
 refine ⟨((Bk.new w _ a h).alloc _).alloc _,?_,?_,b3⟩
 ·have:=(Bk.new (w.alloc (.cells a 60)) 289 (u8s (List.replicate 64 0)).toArray rfl).alloc (.cells (u8s (List.replicate 64 0)).toArray 289)
  simpa using this
 ·rw [fil_none]
  have:=Bk.new ((w.alloc (.cells a 60)).alloc (.cells (u8s (List.replicate 64 0)).toArray 289)) 289 (u8s (List.replicate 64 0)).toArray rfl
  simpa using this
theorem bytes_of (bs:List Nat)(n0 n1 n2 n3 n4 n5 n6 n7 n8:Nat)(w:World)(hl:bs.length=64)(hb:Small8 bs)
  (h0:n0=leN bs 0 4) (h1:n1=leN bs 4 4) (h2:n2=leN bs 8 8) (h3:n3=leN bs 16 8) (h4:n4=leN bs 24 8) (h5:n5=leN bs 32 8) (h6:n6=leN bs 40 8) (h7:n7=leN bs 48 8) (h8:n8=leN bs 56 8) :
  Calls Tryz.prog 174 #[.agg #[.int .u32 n0,.int .u32 n1,.int .u64 n2,.int .u64 n3,.int .u64 n4,.int .u64 n5,.int .u64 n6,.int .u64 n7,.int .u64 n8]] w fun e w'=>
   e=.returned (.agg (u8s bs).toArray)∧Below w.heap.size w w':=by
 have Hl:=qd hl
 have Hb:=qd hb
 have H:=qd (And.intro h0 (And.intro h1 (And.intro h2 (And.intro h3 (And.intro h4 (And.intro h5 (And.intro h6 (And.intro h7 h8))))))))
 clear hl hb h0 h1 h2 h3 h4 h5 h6 h7 h8
 go_enter Tryz.func174,Tryz.ntmps174
 go_wp2_with fail
 rw [zs64]
 have hM:=mem_of w #[.int .u32 n0,.int .u32 n1,.int .u64 n2,.int .u64 n3,.int .u64 n4,.int .u64 n5,.int .u64 n6,.int .u64 n7,.int .u64 n8] _ bs rfl
 revert hM
 generalize (((w.alloc (.cells #[.int .u32 n0,.int .u32 n1,.int .u64 n2,.int .u64 n3,.int .u64 n4,.int .u64 n5,.int .u64 n6,.int .u64 n7,.int .u64 n8] 60)).alloc (.cells (u8s (List.replicate 64 0)).toArray 289)).alloc (.cells (u8s (List.replicate 64 0)).toArray 289))=w3
 intro hM
 have HM:=qd hM
 have c0:=hM.rc.cell 0 rfl
 have hw0:IntKind.u64.wrap (n0:Int)=n0:=IntWalk.u64_in (n0:Int) (by have:=leN4_lt Hb.out 0;have:=H.out.1;omega)
 have hw1:IntKind.u64.wrap (n1:Int)=n1:=IntWalk.u64_in (n1:Int) (by have:=leN4_lt Hb.out 4;have:=H.out.2.1;omega)
 clear hM
 go_still_tail 4,(by kernel_rfl)
 go_wp2_with fail
 refine (put_any bs _ 289 0 4 64 n0 _ Hl.out Hb.out (by omega) (by omega) H.out.1 HM.out.loc.drew).mono ?_
 rintro e w4 ⟨rfl,hb4,hg4⟩
 have HM4:=qd (HM.out.put hb4 hg4)
 clear hb4 hg4 HM c0 hw0
 have c1:=HM4.out.rc.cell 1 rfl
 go_wp2_with fail
 go_still_tail 4,(by kernel_rfl)
 go_wp2_with fail
 refine (put_any bs _ 289 4 4 60 n1 _ Hl.out Hb.out (by omega) (by omega) H.out.2.1 HM4.out.loc.drew).mono ?_
 rintro e w5 ⟨rfl,hb5,hg5⟩
 have HM5:=qd (HM4.out.put hb5 hg5)
 clear hb5 hg5 HM4 c1 hw1
 have c2:=HM5.out.rc.cell 2 rfl
 go_wp2_with fail
 go_still_tail 3,(by kernel_rfl)
 go_wp2_with fail
 refine (put_any bs _ 289 8 8 56 n2 _ Hl.out Hb.out (by omega) (by omega) H.out.2.2.1 HM5.out.loc.drew).mono ?_
 rintro e w6 ⟨rfl,hb6,hg6⟩
 have HM6:=qd (HM5.out.put hb6 hg6)
 clear hb6 hg6 HM5 c2
 have c3:=HM6.out.rc.cell 3 rfl
 have c4:=HM6.out.rc.cell 4 rfl
 have c5:=HM6.out.rc.cell 5 rfl
 have c6:=HM6.out.rc.cell 6 rfl
 have c7:=HM6.out.rc.cell 7 rfl
 have c8:=HM6.out.rc.cell 8 rfl
 go_wp2_with fail
 clear c3 c4 c5 c6 c7 c8
 go_loopw [23] (fun i wr=>∃k:Nat,k≤6∧i=.int .i64 k∧Hid (Mem w wr [.int .u32 n0,.int .u32 n1,.int .u64 n2,.int .u64 n3,.int .u64 n4,.int .u64 n5,.int .u64 n6,.int .u64 n7,.int .u64 n8] bs (16+8*k))) (fun i _=>6-(intOf i).toNat)
 case atStart=>exact ⟨0,by omega,rfl,HM6⟩
 case round=>
  obtain ⟨k,hk,rfl,HR⟩:=hrel
  clear HM6
  rcases (by omega:k=0∨k=1∨k=2∨k=3∨k=4∨k=5∨k=6) with rfl|rfl|rfl|rfl|rfl|rfl|rfl
  ·have hix:∀wx,(Instr.index 58 (.agg #[.int .u64 n3,.int .u64 n4,.int .u64 n5,.int .u64 n6,.int .u64 n7,.int .u64 n8]) (.int .i64 0)).run Tryz.prog wx=.ok (.int .u64 n3) wx:=fun wx=>by kernel_rfl
   go_wp2_with fail
   refine (put_any bs _ 289 16 8 48 n3 _ Hl.out Hb.out (by omega) (by omega) H.out.2.2.2.1 HR.out.loc).mono ?_
   rintro e w7 ⟨rfl,hb7,hg7⟩
   have HM7:=qd (HR.out.put' hb7 hg7)
   clear hb7 hg7
   go_wp2_with fail
   go_roundw
   case rel=>exact ⟨1,by omega,rfl,HM7⟩
   case measure=>simp [intOf]
  ·have hix:∀wx,(Instr.index 58 (.agg #[.int .u64 n3,.int .u64 n4,.int .u64 n5,.int .u64 n6,.int .u64 n7,.int .u64 n8]) (.int .i64 1)).run Tryz.prog wx=.ok (.int .u64 n4) wx:=fun wx=>by kernel_rfl
   go_wp2_with fail
   refine (put_any bs _ 289 24 8 40 n4 _ Hl.out Hb.out (by omega) (by omega) H.out.2.2.2.2.1 HR.out.loc).mono ?_
   rintro e w7 ⟨rfl,hb7,hg7⟩
   have HM7:=qd (HR.out.put' hb7 hg7)
   clear hb7 hg7
   go_wp2_with fail
   go_roundw
   case rel=>exact ⟨2,by omega,rfl,HM7⟩
   case measure=>simp [intOf]
  ·have hix:∀wx,(Instr.index 58 (.agg #[.int .u64 n3,.int .u64 n4,.int .u64 n5,.int .u64 n6,.int .u64 n7,.int .u64 n8]) (.int .i64 2)).run Tryz.prog wx=.ok (.int .u64 n5) wx:=fun wx=>by kernel_rfl
   go_wp2_with fail
   refine (put_any bs _ 289 32 8 32 n5 _ Hl.out Hb.out (by omega) (by omega) H.out.2.2.2.2.2.1 HR.out.loc).mono ?_
   rintro e w7 ⟨rfl,hb7,hg7⟩
   have HM7:=qd (HR.out.put' hb7 hg7)
   clear hb7 hg7
   go_wp2_with fail
   go_roundw
   case rel=>exact ⟨3,by omega,rfl,HM7⟩
   case measure=>simp [intOf]
  ·have hix:∀wx,(Instr.index 58 (.agg #[.int .u64 n3,.int .u64 n4,.int .u64 n5,.int .u64 n6,.int .u64 n7,.int .u64 n8]) (.int .i64 3)).run Tryz.prog wx=.ok (.int .u64 n6) wx:=fun wx=>by kernel_rfl
   go_wp2_with fail
   refine (put_any bs _ 289 40 8 24 n6 _ Hl.out Hb.out (by omega) (by omega) H.out.2.2.2.2.2.2.1 HR.out.loc).mono ?_
   rintro e w7 ⟨rfl,hb7,hg7⟩
   have HM7:=qd (HR.out.put' hb7 hg7)
   clear hb7 hg7
   go_wp2_with fail
   go_roundw
   case rel=>exact ⟨4,by omega,rfl,HM7⟩
   case measure=>simp [intOf]
  ·have hix:∀wx,(Instr.index 58 (.agg #[.int .u64 n3,.int .u64 n4,.int .u64 n5,.int .u64 n6,.int .u64 n7,.int .u64 n8]) (.int .i64 4)).run Tryz.prog wx=.ok (.int .u64 n7) wx:=fun wx=>by kernel_rfl
   go_wp2_with fail
   refine (put_any bs _ 289 48 8 16 n7 _ Hl.out Hb.out (by omega) (by omega) H.out.2.2.2.2.2.2.2.1 HR.out.loc).mono ?_
   rintro e w7 ⟨rfl,hb7,hg7⟩
   have HM7:=qd (HR.out.put' hb7 hg7)
   clear hb7 hg7
   go_wp2_with fail
   go_roundw
   case rel=>exact ⟨5,by omega,rfl,HM7⟩
   case measure=>simp [intOf]
  ·have hix:∀wx,(Instr.index 58 (.agg #[.int .u64 n3,.int .u64 n4,.int .u64 n5,.int .u64 n6,.int .u64 n7,.int .u64 n8]) (.int .i64 5)).run Tryz.prog wx=.ok (.int .u64 n8) wx:=fun wx=>by kernel_rfl
   go_wp2_with fail
   refine (put_any bs _ 289 56 8 8 n8 _ Hl.out Hb.out (by omega) (by omega) H.out.2.2.2.2.2.2.2.2 HR.out.loc).mono ?_
   rintro e w7 ⟨rfl,hb7,hg7⟩
   have HM7:=qd (HR.out.put' hb7 hg7)
   clear hb7 hg7
   go_wp2_with fail
   go_roundw
   case rel=>exact ⟨6,by omega,rfl,HM7⟩
   case measure=>simp [intOf]
  ·have hb64:=HR.out.loc
   rw [show 16+8*6=64 from rfl,fil_all bs Hl.out] at hb64
   have Hb64:=qd hb64
   have Han:=qd HR.out.ans
   have hbel:=only_below HR.out.bel (only_row wr (w.heap.size+1) (u8s bs).toArray) HR.out.bel.size (by omega)
   have hres:=HR.out.ans.row (u8s bs)
   have Hbel:=qd hbel
   have Hres:=qd hres
   clear hb64 hbel hres
   go_wp2_with (first|(refine ld_row Hb64.out rfl _ rfl rfl Tryz.underlying289 size64 (u8s_len Hl.out) ?_)|(refine st_row Han.out rfl _ _ rfl rfl rfl size64 (u8s_len (by simp)) (u8s_len Hl.out) (u8s_all bs) ?_))
   exact bodyPost_ret (v:=.agg (u8s bs).toArray) (results_cell_row Tryz.results174 _ _ (w.heap.size+1) _ _ (0,0) _ rfl Hres.out Tryz.underlying289 rfl (by rw [size64,List.size_toArray,u8s_len Hl.out])) rfl ⟨rfl,Hbel.out⟩
end Go.Proofs.YtcnebdjhhfnmoaaGreatDoor.Rec
namespace Go.Proofs.YtcnebdjhhfnmoaaGreatDoor.Rec
open Go.RowKit
theorem bytes_any (bs:List Nat)(w:World)(hl:bs.length=64)(hb:Small8 bs):Calls Tryz.prog 174 #[.agg (recL bs).toArray] w fun e w'=>e=.returned (.agg (u8s bs).toArray)∧Below w.heap.size w w':=
 bytes_of bs _ _ _ _ _ _ _ _ _ w hl hb rfl rfl rfl rfl rfl rfl rfl rfl rfl
def WordPost (n:Nat)(b:Bool)(w:World)(e:Ending)(w':World):Prop:=e=.returned (.tuple #[.int .u32 n,.bool b])∧Below w.heap.size w w'
theorem four_at (at_:Nat)(h4:at_%4=0)(h60:at_≤60)(g:Nat)(wx:World):(Instr.sliceAt 289 (.pointer (some ⟨g,0,none⟩)) (some (.int .u32 (at_:Int))) (some (.int .u32 ((at_:Int)+4))) none).run Tryz.prog wx=.ok (.slice (some ⟨g,at_,none⟩) 4 (64-at_)) wx:=by
 obtain ⟨q,rfl⟩:∃q,at_=4*q:=⟨at_ / 4,by omega⟩
 have hq:q≤15:=by omega
 clear h4 h60
 rcases (by omega:q=0∨q=1∨q=2∨q=3∨q=4∨q=5∨q=6∨q=7∨q=8∨q=9∨q=10∨q=11∨q=12∨q=13∨q=14∨q=15) with rfl|rfl|rfl|rfl|rfl|rfl|rfl|rfl|rfl|rfl|rfl|rfl|rfl|rfl|rfl|rfl<;>(show _=_;kernel_rfl)
theorem word_yes (bs:List Nat)(at_:Nat)(w:World)(hl:bs.length=64)(hb:Small8 bs)(h4:at_%4=0)(h60:at_≤60):Calls Tryz.prog 158 #[.agg (recL bs).toArray,.int .u32 at_] w (WordPost (leN bs at_ 4) true w):=by
 have hsl:=four_at at_ h4 h60
 have b1:((at_:Int)%4==0)=true:=by simp;omega
 have b2:((at_:Int)%4 != 0)=false:=by simp;omega
 have h61:(at_:Int)≤60:=by omega
 have Hbx:=qd (Bk.new w 60 (recL bs).toArray rfl)
 have HB:=qd ((Below.refl w.heap.size w).alloc (Nat.le_refl _) (.cells (recL bs).toArray 60))
 have Bytes:=qd (bytes_any bs (w.alloc (.cells (recL bs).toArray 60)) hl hb)
 have Take:=qd (fun g wx (h:Bk wx g 289 (u8s bs))=>take_any bs g at_ 4 (64-at_) wx hb (by omega) (At.of h (by omega)))
 obtain ⟨v,hv⟩:∃v,v=leN bs at_ 4:=⟨_,rfl⟩
 rw [←hv] at Take
 have hvl:v<4294967296:=by have:=leN4_lt hb at_;omega
 have hw:IntKind.u32.wrap (v:Int)=v:=IntWalk.u32_in (v:Int) (by omega)
 have Hv:=qd hv
 have Hl:=qd hl
 obtain ⟨R,hR⟩:∃R,R=recL bs:=⟨_,rfl⟩
 have hRl:R.length=9:=by rw [hR];rfl
 have HRl:=qd hRl
 rw [←hR] at Hbx HB Bytes ⊢
 clear h4 hv hl hR hRl
 go_enter Tryz.func158,Tryz.ntmps158
 go_wp2_with (refine ld_any Hbx.out rfl _ rfl rfl Tryz.underlying60 size9 HRl.out ?_)
 refine Bytes.out.mono ?_
 rintro e w1 ⟨rfl,hb1⟩
 have HB1:=qd (HB.out.trans (hb1.mono HB.out.size))
 clear hb1 Bytes Hbx HB
 have Hz:=qd (Bk.new w1 289 _ zs64)
 go_wp2_with (refine st_row Hz.out rfl _ _ rfl rfl rfl size64 (u8s_len (by simp)) (u8s_len Hl.out) (u8s_all bs) ?_)
 refine (Take.out w1.heap.size _ (Hz.out.row (u8s bs))).mono ?_
 rintro e w2 ⟨rfl,rfl⟩
 have Hend:=qd (only_below (HB1.out.alloc HB1.out.size (.cells (u8s (List.replicate 64 0)).toArray 289)) (only_row (w1.alloc (.cells (u8s (List.replicate 64 0)).toArray 289)) w1.heap.size (u8s bs).toArray) (by have:=HB1.out.size;simp;omega) HB1.out.size)
 go_wp2_with fail
 go_ret2
 exact ⟨by rw [←Hv.out];rfl,Hend.out⟩
end Go.Proofs.YtcnebdjhhfnmoaaGreatDoor.Rec
namespace Go.Proofs.YtcnebdjhhfnmoaaGreatDoor.Rec
open Go.RowKit
theorem ret_bool {a b:Bool}(h:a=b):Ending.returned (.bool a)=.returned (.bool b):=by rw [h]
theorem ret_int {k:IntKind}{a b:Int}(h:a=b):Ending.returned (.int k a)=.returned (.int k b):=by rw [h]
theorem kind_any (a:Nat)(w:World)(h:a<4294967296):Calls Tryz.prog 102 #[.int .u32 a] w fun e w'=>e=.returned (.int .u32 (kdOf (strN a):Nat))∧w=w':=by
 obtain ⟨q,hq⟩:∃q,q=a / 65536:=⟨_,rfl⟩
 have hb:=andHigh a h
 rw [←hq] at hb
 have hs:strN a=if q=5 then 2 else if q=32764 then 1 else if q=32767 then 0 else 3:=by rw [hq];rfl
 obtain ⟨s,hsd⟩:∃s,s=strN a:=⟨_,rfl⟩
 rw [←hsd] at hs ⊢
 clear hsd
 by_cases h5:q=5
 ·subst h5
  simp at hs
  subst hs
  simp at hb
  have hq':=qd hq
  clear hq
  go_enter Tryz.func102,Tryz.ntmps102
  go_wp2
  go_ret
  exact ⟨rfl,rfl⟩
 by_cases h6:q=32764
 ·subst h6
  simp at hs
  subst hs
  simp at hb
  have hq':=qd hq
  clear hq
  go_enter Tryz.func102,Tryz.ntmps102
  go_wp2
  go_ret
  exact ⟨rfl,rfl⟩
 by_cases h7:q=32767
 ·subst h7
  simp at hs
  subst hs
  simp at hb
  have hq':=qd hq
  clear hq
  go_enter Tryz.func102,Tryz.ntmps102
  go_wp2
  go_ret
  exact ⟨rfl,rfl⟩
 ·rw [if_neg h5,if_neg h6,if_neg h7] at hs
  subst hs
  obtain ⟨m,hm⟩:∃m,m=q*65536:=⟨_,rfl⟩
  rw [←hm] at hb
  have b1:((m:Int)==327680)=false:=by simp;omega
  have b2:((m:Int)==2147221504)=false:=by simp;omega
  have b3:((m:Int)==2147418112)=false:=by simp;omega
  clear hq hm h5 h6 h7
  go_enter Tryz.func102,Tryz.ntmps102
  go_wp2
  go_ret
  exact ⟨rfl,rfl⟩
theorem rank_any (a:Nat)(w:World)(h:a<4294967296):Calls Tryz.prog 139 #[.int .u32 a] w fun e w'=>e=.returned (.int .i32 (rkOf (strN a)))∧w=w':=by
 have hc:=kind_any a w h
 have hs:=strN_le a
 obtain ⟨s,hsd⟩:∃s,s=strN a:=⟨_,rfl⟩
 rw [←hsd] at hs hc ⊢
 clear hsd
 have Hc:=qd hc
 clear hc
 rcases (by omega:s=0∨s=1∨s=2∨s=3) with rfl|rfl|rfl|rfl
 all_goals
  go_enter Tryz.func139,Tryz.ntmps139
  go_wp2_with (go_at_call 102;refine Hc.out.mono ?_;rintro e w' ⟨rfl,rfl⟩;simp only [kdOf])
  go_ret
  first|exact ⟨rfl,rfl⟩|exact ⟨ret_int (by simp [wrap32,rkOf]),rfl⟩
theorem number_any (a:Nat)(w:World)(h:a<4294967296):Calls Tryz.prog 69 #[.int .u32 a] w fun e w'=>e=.returned (.int .i64 (numN a:Nat))∧w=w':=by
 have hb:=andLow a h
 have hc:=kind_any a w h
 have hs:=strN_le a
 have hn:numN a=if strN a=2 then a%65536 else 0:=rfl
 obtain ⟨s,hsd⟩:∃s,s=strN a:=⟨_,rfl⟩
 obtain ⟨m,hm⟩:∃m,m=a%65536:=⟨_,rfl⟩
 have hml:m<65536:=by omega
 rw [←hsd] at hs hc
 rw [hn,←hsd,←hm]
 rw [←hm] at hb
 clear hsd hn hm
 have Hc:=qd hc
 clear hc
 rcases (by omega:s=0∨s=1∨s=2∨s=3) with rfl|rfl|rfl|rfl
 all_goals
  go_enter Tryz.func69,Tryz.ntmps69
  go_wp2_with (go_at_call 102;refine Hc.out.mono ?_;rintro e w' ⟨rfl,rfl⟩;simp only [kdOf])
  go_ret
  exact ⟨rfl,rfl⟩
theorem stronger_any (a b:Nat)(w:World)(ha:a<4294967296)(hb:b<4294967296):Calls Tryz.prog 103 #[.int .u32 a,.int .u32 b] w fun e w'=>e=.returned (.int .u32 (stg a b:Nat))∧w=w':=by
 have ca:=rank_any a w ha
 have cb:=rank_any b w hb
 have hlt:=rk_lt (strN_le a) (strN_le b)
 have hst:stg a b=if strN a<strN b then b else a:=rfl
 obtain ⟨x,hx⟩:∃x,x=rkOf (strN a):=⟨_,rfl⟩
 obtain ⟨y,hy⟩:∃x,x=rkOf (strN b):=⟨_,rfl⟩
 rw [←hx,←hy] at hlt
 rw [←hx] at ca
 rw [←hy] at cb
 clear hx hy
 have Ca:=qd ca
 have Cb:=qd cb
 clear ca cb
 by_cases h:strN a<strN b
 ·rw [if_pos h] at hst
  rw [hst]
  have hi:=hlt.2 h
  clear hst hlt h
  go_enter Tryz.func103,Tryz.ntmps103
  go_wp2_with fail
  refine Cb.out.mono ?_
  rintro e w' ⟨rfl,rfl⟩
  go_wp2_with fail
  refine Ca.out.mono ?_
  rintro e w' ⟨rfl,rfl⟩
  go_wp2_with fail
  go_ret
  exact ⟨rfl,rfl⟩
 ·rw [if_neg h] at hst
  rw [hst]
  have hi:¬y<x:=fun e=>h (hlt.1 e)
  clear hst hlt h
  go_enter Tryz.func103,Tryz.ntmps103
  go_wp2_with fail
  refine Cb.out.mono ?_
  rintro e w' ⟨rfl,rfl⟩
  go_wp2_with fail
  refine Ca.out.mono ?_
  rintro e w' ⟨rfl,rfl⟩
  go_wp2_with fail
  go_ret
  exact ⟨rfl,rfl⟩
theorem clamp_low {e:Int}(h:e≤0):clampN e=0:=by unfold clampN;omega
theorem clamp_high {e:Int}(h:4095≤e):clampN e=4095:=by unfold clampN;omega
theorem clamp_mid {n:Nat}(h:n≤4095):clampN n=n:=by unfold clampN;omega
theorem fail_any (e:Int)(w:World):Calls Tryz.prog 64 #[.int .i64 e] w fun r w'=>r=.returned (.int .u32 (327680+clampN e:Nat))∧w=w':=by
 by_cases h0:e≤0
 ·rw [clamp_low h0]
  have ho:bits .or .u32 327680 0=327680:=by rfl
  go_enter Tryz.func64,Tryz.ntmps64
  go_wp2_with fail
  all_goals (go_ret;first|exact ⟨rfl,rfl⟩|(obtain rfl:e=0:=(by omega);exact ⟨rfl,rfl⟩))
 by_cases h1:4095≤e
 ·rw [clamp_high h1]
  go_enter Tryz.func64,Tryz.ntmps64
  go_wp2_with fail
  all_goals (go_ret;first|exact ⟨rfl,rfl⟩|(obtain rfl:e=4095:=(by omega);exact ⟨rfl,rfl⟩))
 obtain ⟨n,rfl⟩:=Int.eq_ofNat_of_zero_le (show 0≤e by omega)
 have hn:n≤4095:=by omega
 rw [clamp_mid hn]
 have ho:=orErrno n (by omega)
 clear h0 h1
 go_enter Tryz.func64,Tryz.ntmps64
 go_wp2_with fail
 all_goals (go_ret;first|exact ⟨rfl,rfl⟩|(exfalso;omega))
end Go.Proofs.YtcnebdjhhfnmoaaGreatDoor.Rec
namespace Go.Proofs.YtcnebdjhhfnmoaaGreatDoor.Rec
open Go.RowKit
def ws (bs:List Nat):List Nat:=[leN bs 0 4,leN bs 4 4,leN bs 8 4,leN bs 12 4,leN bs 16 4,leN bs 20 4,leN bs 24 4,leN bs 28 4,leN bs 32 4,leN bs 36 4,leN bs 40 4,leN bs 44 4,leN bs 48 4,leN bs 52 4,leN bs 56 4,leN bs 60 4]
theorem lo_of (bs:List Nat)(hb:Small8 bs)(o:Nat):leN bs o 8%4294967296=leN bs o 4:=by
 have h1:=leN_8 bs o
 have h2:=leN4_lt hb o
 omega
theorem hi_of (bs:List Nat)(hb:Small8 bs)(o:Nat):leN bs o 8 / 4294967296=leN bs (o+4) 4:=by
 have h1:=leN_8 bs o
 have h2:=leN4_lt hb o
 omega
def arg5 (a:Int):Nat:=(min (max a 0) 5).toNat
theorem arg5_low {a:Int}(h:a≤0):arg5 a=0:=by unfold arg5;omega
theorem arg5_high {a:Int}(h:5≤a):arg5 a=5:=by unfold arg5;omega
theorem half_any (a:Int)(hi:Bool)(w:World):Calls Tryz.prog 202 #[.int .i64 a,.bool hi] w fun e w'=>e=.returned (.int .u32 (16+8*arg5 a+(if hi then 4 else 0):Nat))∧w=w':=by
 rcases (by omega:a≤0∨5≤a∨a=1∨a=2∨a=3∨a=4) with h|h|rfl|rfl|rfl|rfl
 ·rw [arg5_low h]
  cases hi
  all_goals
   go_enter Tryz.func202,Tryz.ntmps202
   go_wp2_with fail
   all_goals (go_ret;first|exact ⟨rfl,rfl⟩|(obtain rfl:a=0:=(by omega);exact ⟨rfl,rfl⟩)|(exfalso;omega))
 ·rw [arg5_high h]
  cases hi
  all_goals
   go_enter Tryz.func202,Tryz.ntmps202
   go_wp2_with fail
   all_goals (go_ret;first|exact ⟨rfl,rfl⟩|(obtain rfl:a=5:=(by omega);exact ⟨rfl,rfl⟩)|(exfalso;omega))
 all_goals
  cases hi
  all_goals
   go_enter Tryz.func202,Tryz.ntmps202
   go_wp2_with fail
   go_ret
   exact ⟨rfl,rfl⟩
end Go.Proofs.YtcnebdjhhfnmoaaGreatDoor.Rec
namespace Go.Proofs.YtcnebdjhhfnmoaaGreatDoor.Rec
open Go.RowKit
theorem step2 {X:Prop}{wx wA wB:World}(hb:Below wA.heap.size wA wB)(h:X∧Hid (Below wx.heap.size wx wA)):Below wx.heap.size wx wB:=h.2.out.trans (hb.mono h.2.out.size)
theorem step1 {X:Prop}{wx wA:World}(h:X∧Hid (Below wx.heap.size wx wA)):Below wx.heap.size wx wA:=h.2.out
end Go.Proofs.YtcnebdjhhfnmoaaGreatDoor.Rec
namespace Go.Proofs.YtcnebdjhhfnmoaaGreatDoor.Rec
open Go.ChangeShapes Go.WideShapes Go.ChangeAt Go.RowKit Go.Deep
section
variable {H:Type} {enc:TypeId×Value→H} {w:World} {base:Nat} {spare:Nat→Bool} {held:Bool} {r:Go.Reach} {b0:Nat} {v:Value} {d:DataW H} {p:List MemPlace}
theorem one_field {f:Field}{fuel T k:Nat}{cs:List Value}{v:Value}{y:Option (DataW H×List MemPlace)}(h:DataW.trod enc Tryz.prog w base spare held fuel f.type ((cs.drop f.offset).take (Tryz.prog.cellsOf f.type))=y)
  (hT:f.type=T) (hk:f.offset=k) (hc:Tryz.prog.cellsOf T=1) (hv:(cs.drop k).take 1=[v]):DataW.trod enc Tryz.prog w base spare held fuel T [v]=y:=by
 subst hT hk
 rwa [hc,hv] at h
theorem some_field {fuel T:Nat}{v:Value}{xs:List (DataW H×List MemPlace)}{i:Nat}(hi:i<xs.length)(h:DataW.trod enc Tryz.prog w base spare held fuel T [v]=xs[i]?):∃y,DataW.trod enc Tryz.prog w base spare held fuel T [v]=some y:=
 ⟨xs[i],by rw [h,List.getElem?_eq_getElem hi]⟩
theorem u32_of {fuel:Nat}{v:Value}(h:∃y,DataW.trod enc Tryz.prog w base spare held fuel 22 [v]=some y):∃n:Nat,v=.int .u32 n∧n<4294967296:=by
 obtain ⟨y,h⟩:=h
 obtain ⟨n,e,_,g⟩:=DataW.trod_int Tryz.underlying22 h
 have b:=bounds_u32 g
 obtain ⟨m,rfl⟩:=Int.eq_ofNat_of_zero_le b.1
 simp only [List.cons.injEq,and_true] at e
 exact ⟨m,e,by omega⟩
theorem u64_of {fuel:Nat}{v:Value}(h:∃y,DataW.trod enc Tryz.prog w base spare held fuel 57 [v]=some y):∃n:Nat,v=.int .u64 n∧n<18446744073709551616:=by
 obtain ⟨y,h⟩:=h
 obtain ⟨n,e,_,g⟩:=DataW.trod_int Tryz.underlying57 h
 have b:=bounds_u64 g
 obtain ⟨m,rfl⟩:=Int.eq_ofNat_of_zero_le b.1
 simp only [List.cons.injEq,and_true] at e
 exact ⟨m,e,by omega⟩
def IsRec (bs:List Nat):Prop:=bs.length=64∧Small8 bs
end
end Go.Proofs.YtcnebdjhhfnmoaaGreatDoor.Rec
